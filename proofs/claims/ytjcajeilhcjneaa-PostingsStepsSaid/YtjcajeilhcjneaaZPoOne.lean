/- The document's bytes of one posting. -/
import Derived.Test.YtjcajeilhcjneaaZWRead
import Derived.Test.YtjcajeilhcjneaaZWFix
import Derived.Deep.RegionHeld3
import Derived.Lib.AppendStr

namespace Go.Proofs.Ytjcajeilhcjneaa.Po
open Go.RowKit
open Fr (varL bs)
theorem bs_app (l m : List UInt8) : bs l ++ bs m = bs (l ++ m) := Fr.bs_cat l m
def lastI : Int -> List Int -> Int
 | a, [] => a
 | _, x :: r => lastI x r
theorem lastI_snoc : ∀ (a : Int) (l : List Int) (x : Int), lastI a (l ++ [x]) = x
 | _, [], _ => rfl
 | _, y :: r, x => lastI_snoc y r x
theorem goes_step {b : Int} : ∀ (a : Int) (l : List Int) (i : Nat) (hi : i < l.length), Goes b a l -> lastI a (l.take i) < l[i] /\ l[i] < b /\ a <= lastI a (l.take i)
 | a, x :: r, 0, _, h => ⟨h.1, h.2.1, Int.le_refl a⟩
 | a, x :: r, i + 1, hi, h => by
  have := goes_step x r i (by simpa using hi) h.2.2
  have hx := h.1
  simp only [List.take_succ_cons, List.getElem_cons_succ]
  exact ⟨this.1, this.2.1, by show a <= lastI x (r.take i); omega⟩
end Go.Proofs.Ytjcajeilhcjneaa.Po
/- The document's bytes of postings. -/
namespace Go.Proofs.Ytjcajeilhcjneaa.Po
open Go.RowKit
open Fr (varL bs)
def skG (L : List Pg) : Nat -> List UInt8
 | 0 => []
 | q + 1 => skG L q ++ (varL (lastD (-1) (L.take (8 * (q + 1))) - lastD (-1) (L.take (8 * q))).toNat ++ varL (allP (lastD (-1) (L.take (8 * q))) ((L.drop (8 * q)).take 8)).length)
theorem skG_skip (L : List Pg) : ∀ q, (q = 0 \/ 8 * q < L.length) -> skG L q ++ skipP (lastD (-1) (L.take (8 * q))) (L.drop (8 * q)) = skipP (-1) L
 | 0, _ => rfl
 | q + 1, h => by
  have h8 : 8 * (q + 1) < L.length := by omega
  have ih := skG_skip L q (by omega)
  rw [skipP, if_pos (by rw [List.length_drop]; omega)] at ih
  have e1 : L.take (8 * (q + 1)) = L.take (8 * q) ++ (L.drop (8 * q)).take 8 := by rw [show 8 * (q + 1) = 8 * q + 8 by omega, List.take_add]
  have e2 : (L.drop (8 * q)).drop 8 = L.drop (8 * (q + 1)) := by rw [List.drop_drop]; congr 1
  rw [e2] at ih
  rw [<- ih, skG, e1, lastD_app]
  simp only [List.append_assoc]
theorem skG_all (L : List Pg) (q : Nat) (h : (L.length = 0 /\ q = 0) \/ (8 * q < L.length /\ L.length <= 8 * q + 8)) : skG L q = skipP (-1) L := by
 have := skG_skip L q (by omega)
 rw [skipP, if_neg (by rw [List.length_drop]; omega), List.append_nil] at this
 exact this
theorem chain_at : ∀ (a : Int) (L : List Pg) (i : Nat) (hi : i < L.length), ChainP a L -> lastD a (L.take i) < L[i].doc /\ L[i].doc < 500 /\ Rise L[i].pos 2000 /\ a <= lastD a (L.take i)
 | a, p :: r, 0, _, h => ⟨h.1, h.2.1, h.2.2.1, Int.le_refl a⟩
 | a, p :: r, i + 1, hi, h => by
  have := chain_at p.doc r i (by simpa using hi) h.2.2.2.2
  have hx := h.1
  simp only [List.take_succ_cons, List.getElem_cons_succ]
  exact ⟨this.1, this.2.1, this.2.2.1, by show a <= lastD p.doc (r.take i); omega⟩
theorem last_take {L : List Pg} (h : ChainP (-1) L) (k : Nat) : -1 <= lastD (-1) (L.take k) /\ lastD (-1) (L.take k) < 500 := by
 obtain ⟨h1, h2⟩ := last_ge (-1) _ (chain_take k (-1) L h)
 exact ⟨h1, h2 (by omega)⟩
theorem last_mono {L : List Pg} (h : ChainP (-1) L) (k j : Nat) : lastD (-1) (L.take k) <= lastD (-1) (L.take (k + j)) := by
 rw [List.take_add, lastD_app]
 exact (last_ge _ _ (chain_take j _ _ (chain_drop k (-1) L h))).1
theorem allP_snoc (a : Int) (L : List Pg) (p : Pg) : allP a (L ++ [p]) = allP a L ++ oneP (lastD a L) p := by
 rw [allP_app]
 show _ ++ (oneP _ p ++ []) = _
 rw [List.append_nil]
theorem lastD_snoc (a : Int) (L : List Pg) (p : Pg) : lastD a (L ++ [p]) = p.doc := by rw [lastD_app]; rfl
end Go.Proofs.Ytjcajeilhcjneaa.Po
/- Reading postings, one number after the other; rows of postings of one's own; the document's Pack. -/
namespace Go.Proofs.Ytjcajeilhcjneaa.Po
open Go.RowKit
open Fr (varL bs)
def flatV : List Pg -> List Value -> List Value
 | p :: r, v :: vs => .int .i64 p.doc :: v :: flatV r vs
 | _, _ => []
theorem flatV_snoc : ∀ (L : List Pg) (vs : List Value) (p : Pg) (v : Value), vs.length = L.length -> flatV (L ++ [p]) (vs ++ [v]) = flatV L vs ++ [.int .i64 p.doc, v]
 | [], [], _, _, _ => rfl
 | q :: r, u :: us, p, v, h => by
  show _ :: _ :: flatV (r ++ [p]) (us ++ [v]) = _
  rw [flatV_snoc r us p v (by simpa using h)]
  rfl
theorem flatV_get : ∀ (L : List Pg) (vs : List Value) (j : Nat) (h : vs.length = L.length) (hj : j < L.length), (flatV L vs)[j * 2]? = some (.int .i64 L[j].doc) /\ (flatV L vs)[j * 2 + 1]? = some (vs[j]'(by rw [h]; exact hj))
 | q :: r, u :: us, 0, _, _ => ⟨rfl, rfl⟩
 | q :: r, u :: us, j + 1, h, hj => by
  have := flatV_get r us j (by simpa using h) (by simpa using hj)
  rw [show (j + 1) * 2 = j * 2 + 1 + 1 by omega]
  exact this
def POwn (B : Nat) (w : World) (v : Value) (M : List Pg) : Prop := ∃ vs : List Value, ∃ h : vs.length = M.length, w.ownsRow B 37 2 v M.length (flatV M vs) /\ ∀ j (hj : j < M.length), OwnI B w (vs[j]'(by rw [h]; exact hj)) M[j].pos
theorem infoPo : (Try.prog.info? 37).map (fun i => (i.zero, i.size, i.bytes)) = some (some (.agg #[.int .i64 0, .slice none 0 0]), 2, 32) := by kernel_rfl
theorem own_only {B : Nat} {e : TypeId} {k : Nat} {v : Value} {n : Nat} {xs : List Value} {w w' : World} {S : Nat -> Prop} (h : w.ownsRow B e k v n xs) (hb : Only S w w') (hS : ∀ q, B <= q -> q < w.heap.size -> ¬ S q) : w'.ownsRow B e k v n xs := by
 refine ⟨h.1, ?_⟩
 rcases h.2 with hn | ⟨g, cap, cur, rfl, hbg, hg, rest⟩
 ·exact .inl hn
 ·have hl := (Array.getElem?_eq_some_iff.1 hg).1
  exact .inr ⟨g, cap, cur, rfl, hbg, by rw [hb.block g hl (hS g hbg hl)]; exact hg, rest⟩
theorem POwn.only {B : Nat} {w w' : World} {v : Value} {M : List Pg} {S : Nat -> Prop} (h : POwn B w v M) (hb : Only S w w') (hS : ∀ q, B <= q -> q < w.heap.size -> ¬ S q) : POwn B w' v M := by
 obtain ⟨vs, hl, h1, h2⟩ := h
 exact ⟨vs, hl, own_only h1 hb hS, fun j hj => own_only (h2 j hj) hb hS⟩
theorem POwn.nil (B : Nat) (w : World) : POwn B w (.slice none 0 0) [] := ⟨[], rfl, World.ownsRow_nil _ _ _ _, fun j hj => absurd hj (Nat.not_lt_zero _)⟩
theorem POwn.sl {B : Nat} {w : World} {v : Value} {M : List Pg} (h : POwn B w v M) : SlP w v M := by
 obtain ⟨vs, hl, h1, h2⟩ := h
 have hO := h1
 rcases h1.2 with ⟨hv, hn⟩ | ⟨g, cap, cur, rfl, hbg, hg, hc, _⟩
 ·exact ⟨none, 0, by rw [hv, hn], by omega, fun j hj => absurd hj (by omega)⟩
 ·refine ⟨_, cap, rfl, hc, fun j hj => ⟨g, 0, vs[j]'(by rw [hl]; exact hj), rfl, (Array.getElem?_eq_some_iff.1 hg).1, ?_, ?_, (h2 j hj).sl⟩⟩
  ·rw [Nat.zero_add, World.ownsRow.cellAt hO (j * 2) (by omega)]
   exact (flatV_get M vs j hl hj).1
  ·rw [Nat.zero_add, World.ownsRow.cellAt hO (j * 2 + 1) (by omega)]
   exact (flatV_get M vs j hl hj).2
theorem POwn.mono {B B' : Nat} {w : World} {v : Value} {M : List Pg} (h : POwn B w v M) (hb : B' <= B) : POwn B' w v M := by
 have mo : ∀ {e : TypeId} {k : Nat} {v : Value} {n : Nat} {xs : List Value}, w.ownsRow B e k v n xs -> w.ownsRow B' e k v n xs := fun h => ⟨h.1, by
  rcases h.2 with hn | ⟨g, cap, cur, rfl, hbg, rest⟩
  ·exact .inl hn
  ·exact .inr ⟨g, cap, cur, rfl, by omega, rest⟩⟩
 obtain ⟨vs, hl, h1, h2⟩ := h
 exact ⟨vs, hl, mo h1, fun j hj => mo (h2 j hj)⟩
end Go.Proofs.Ytjcajeilhcjneaa.Po
/- What the document's Pack and Unpack of postings answer. -/
namespace Go.Proofs.Ytjcajeilhcjneaa.Po
open Go.RowKit
open Fr (varL bs)
end Go.Proofs.Ytjcajeilhcjneaa.Po
/- What the program's packed answers: the bytes of one posting. -/
set_option maxRecDepth 100000
namespace Go.Proofs.Ytjcajeilhcjneaa.Po
open Go.RowKit
open Fr (varL varsL bs)
def OwnU (B : Nat) (w : World) (v : Value) (L : List Nat) : Prop := w.ownsRow B 43 1 v L.length (L.map fun x : Nat => Value.int .u64 (x : Int))
theorem infoU : (Try.prog.info? 43).map (fun i => (i.zero, i.size, i.bytes)) = some (some (.int .u64 0), 1, 8) := by kernel_rfl
theorem OwnU.below {B : Nat} {w w' : World} {v : Value} {L : List Nat} (h : OwnU B w v L) (hb : Below w.heap.size w w') : OwnU B w' v L := own_belowP h hb
theorem OwnU.nums {B : Nat} {w : World} {v : Value} {L : List Nat} (h : OwnU B w v L) : Fr.Nums w v L := by
 have hO := h
 rcases h.2 with ⟨hv, hn⟩ | ⟨g, cap, cur, rfl, hbg, hg, hc, _⟩
 ·exact .inl ⟨hv, List.eq_nil_of_length_eq_zero hn⟩
 ·refine .inr ⟨g, 0, cap, rfl, (Array.getElem?_eq_some_iff.1 hg).1, fun j hj => ?_⟩
  rw [Nat.zero_add, World.ownsRow.cellAt hO j (by omega)]
  simp [hj]
theorem OwnU.two {B : Nat} {w : World} {g : Nat} {x y : Nat} (h : w.heap[g]? = some (.cells #[.int .u64 (x : Int), .int .u64 (y : Int)] 43 (0, 0))) (hB : B <= g) : OwnU B w (.slice (some ⟨g, 0, none⟩) 2 2) [x, y] :=
 ⟨rfl, .inr ⟨g, 2, _, rfl, hB, h, Nat.le_refl _, by unfold maxLen; omega, rfl, rfl⟩⟩
theorem one_cellU {w : World} {t : TypeId} {x : Int} {g : Nat} (hg : w.heap.size = g) : ∀ (j : Nat) (u : Value), [Value.int .u64 x][j]? = some u -> (w.alloc (.cells #[.int .u64 x] t)).cell? ((⟨g, 0, none⟩ : Addr).add j) = some u := by
 subst hg
 intro j u hu
 rw [add_atP, Nat.zero_add, cell_atP (heap_newP ..)]
 rw [<- hu]; simp
theorem one_oneU {x : Int} : ∀ u ∈ [Value.int .u64 x], u.oneCell' = true := by
 intro u hu
 simp only [List.mem_cons, List.not_mem_nil, or_false] at hu
 subst hu; rfl
def gapN : Int -> List Int -> List Nat
 | _, [] => []
 | a, x :: r => (x - a).toNat :: gapN x r
theorem gapN_vars : ∀ (a : Int) (l : List Int), varsL (gapN a l) = gapL a l
 | _, [] => rfl
 | a, x :: r => by
  show varL _ ++ varsL (gapN x r) = _
  rw [gapN_vars x r]; rfl
theorem gapN_snoc : ∀ (a : Int) (l : List Int) (x : Int), gapN a (l ++ [x]) = gapN a l ++ [(x - lastI a l).toNat]
 | _, [], _ => rfl
 | a, y :: r, x => by
  show (y - a).toNat :: gapN y (r ++ [x]) = _
  rw [gapN_snoc y r x]; rfl
theorem gapN_len : ∀ (a : Int) (l : List Int), (gapN a l).length = l.length
 | _, [] => rfl
 | a, x :: r => by rw [gapN, List.length_cons, List.length_cons, gapN_len x r]
theorem gapN_lt : ∀ (a : Int) (l : List Int), -1 <= a -> Goes 2000 a l -> ∀ x ∈ gapN a l, x < 18446744073709551616
 | _, [], _, _, x, hx => by cases hx
 | a, y :: r, h0, h, x, hx => by
  rcases List.mem_cons.1 hx with rfl | hx
  ·have := h.1; have := h.2.1; omega
  ·exact gapN_lt y r (by have := h.1; omega) h.2.2 x hx
set_option maxHeartbeats 8000000 in
theorem ppacked_any (a : Int) (p : Pg) (ve : Value) (w : World) (h : SlI w ve p.pos) (h0 : -1 <= a) (h1 : a < p.doc) (h2 : p.doc < 500) (h3 : Rise p.pos 2000) :
  Calls Try.prog 22 #[.agg #[.int .i64 p.doc, ve], .int .i64 a] w fun e w' => e = .returned (.string (bs (oneP a p))) /\ Below w.heap.size w w' := by
 obtain ⟨i0, hi, hz0, hz1, hz2⟩ := info_parts infoU
 have HZ2 := Lib.hid hz2; clear hz2
 have hml := rise_len h3 (by omega)
 have HGo := Lib.hid (fun i hi => goes_step (-1) p.pos i hi (rise_goes h3))
 have HGl := Lib.hid (gapN_lt (-1) p.pos (by omega) (rise_goes h3))
 obtain ⟨d, L⟩ := p
 dsimp only at *
 obtain ⟨ao, c, rfl, _, hc⟩ := h
 have HC := Lib.hid hc
 obtain ⟨m, hm⟩ : ∃ m, L.length = m := ⟨_, rfl⟩
 have HM := Lib.hid hm
 have HE : Hid (bs (oneP a ⟨d, L⟩) = bs (varsL ([(d - a).toNat, m] ++ gapN (-1) L))) := by
  show _ = _
  unfold oneP
  rw [hm, <- gapN_vars]
  rfl
 rw [hm] at hml ⊢
 have hd0 : (0 : Int) <= d - a := by omega
 obtain ⟨x, hx⟩ : ∃ x : Nat, (d - a).toNat = x := ⟨_, rfl⟩
 rw [hx] at HE
 have hda : d - a = (x : Int) := by omega
 have hxl : x < 600 := by omega
 have hwr : IntKind.i64.wrap (d - a) = (x : Int) := by rw [hda]; exact IntWalk.i64_in _ (by omega)
 have hwx : IntKind.u64.wrap (x : Int) = (x : Int) := by rw [IntKind.wrap_u64]; omega
 have hwm : IntKind.u64.wrap (m : Int) = (m : Int) := by rw [IntKind.wrap_u64]; omega
 obtain ⟨W0, hW0⟩ : ∃ W0, w.alloc (.cells #[.int .i64 d, .slice ao m c] 37) = W0 := ⟨_, rfl⟩
 obtain ⟨B, hB⟩ : ∃ B, w.heap.size = B := ⟨_, rfl⟩
 have hb0 : W0.heap[B]? = some (.cells #[.int .i64 d, .slice ao m c] 37 (0, 0)) := by rw [<- hW0, <- hB]; exact heap_newP w _
 have hbl : B < W0.heap.size := (Array.getElem?_eq_some_iff.1 hb0).1
 have HB0 : Hid (Below w.heap.size w W0) := by rw [<- hW0]; exact (Below.refl _ w).alloc (Nat.le_refl _) _
 have HX : Hid (∀ W, Below W0.heap.size W0 W -> W.cell? ⟨B, 0, none⟩ = some (.int .i64 d) /\ W.cell? ⟨B, 1, none⟩ = some (.slice ao m c)) := fun W hW => by
  have := (hW.block B hbl).trans hb0
  exact ⟨cell_atP this 0, cell_atP this 1⟩
 have HCW : Hid (∀ W, Below W0.heap.size W0 W -> ∀ j (hj : j < L.length), ∃ g off, ao = some ⟨g, off, none⟩ /\ W.cell? ⟨g, off + j, none⟩ = some (.int .i64 L[j])) := fun W hW j hj => by
  obtain ⟨g, off, e, hg, h1⟩ := HC.out j hj
  have hbW : Below w.heap.size w W := HB0.out.trans (hW.mono HB0.out.size)
  exact ⟨g, off, e, (hbW.cell (p := ⟨g, _, none⟩) hg).trans h1⟩
 have HEnd : Hid (∀ W, Below W0.heap.size W0 W -> Below w.heap.size w W) := fun W hW => HB0.out.trans (hW.mono HB0.out.size)
 have x0 := (HX.out W0 (Below.refl _ _)).1
 have x1 := (HX.out W0 (Below.refl _ _)).2
 have HW0 := Lib.hid hW0
 clear hc hm h3 hb0 hW0 hbl
 go_enter Try.func22, Try.ntmps22
 go_wp2_with fail
 rw [HW0.out]
 obtain ⟨WL, hWL⟩ : ∃ WL, W0.alloc (.cells #[.int .u64 (x : Int), .int .u64 (m : Int)] 43) = WL := ⟨_, rfl⟩
 have hs0 : W0.heap.size = B + 1 := by rw [<- HW0.out, World.size_alloc, hB]
 have HOL : Hid (OwnU (B + 1) WL (.slice (some ⟨B + 1, 0, none⟩) 2 2) ([x, m] ++ gapN (-1) (L.take 0))) := by
  show OwnU _ _ _ _
  refine OwnU.two ?_ (Nat.le_refl _)
  rw [<- hWL, <- hs0]
  exact heap_newP W0 _
 have HBL : Hid (Below W0.heap.size W0 WL) := by rw [<- hWL]; exact (Below.refl _ W0).alloc (Nat.le_refl _) _
 have HS0 := Lib.hid hs0
 rw [hWL]
 clear hWL x0 x1 hs0
 go_loopw [1, 5, 21] (fun av lv iv wr => ∃ i : Nat, i <= m /\ iv = .int .i64 (i : Int) /\ av = .int .i64 (lastI (-1) (L.take i)) /\ Hid (OwnU (B + 1) wr lv ([x, m] ++ gapN (-1) (L.take i))) /\ Hid (Below W0.heap.size W0 wr)) (fun _ _ iv _ => m - (intOf iv).toNat)
 case atStart => exact ⟨0, Nat.zero_le _, rfl, rfl, HOL.out, HBL.out⟩
 case round =>
  obtain ⟨i, hi1, rfl, rfl, HO, HBr⟩ := hrel
  by_cases hlt : i < m
  ·have hiz : (i : Int) < (m : Int) := by omega
   have hiL : i < L.length := by rw [HM.out]; exact hlt
   obtain ⟨g, off, rfl, hy⟩ := HCW.out _ HBr.out i hiL
   obtain ⟨g1, g2, g3⟩ := HGo.out i hiL
   have HTk : Hid (gapN (-1) (L.take (i + 1)) = gapN (-1) (L.take i) ++ [(L[i] - lastI (-1) (L.take i)).toNat] /\ lastI (-1) (L.take (i + 1)) = L[i]) := by
    rw [List.take_succ_eq_append_getElem hiL]
    exact ⟨gapN_snoc _ _ _, lastI_snoc _ _ _⟩
   have HLen : Hid (([x, m] ++ gapN (-1) (L.take i)).length = i + 2) := by
    show _ = _
    rw [List.length_append, gapN_len, List.length_take, HM.out]
    show 2 + min i m = i + 2
    omega
   generalize L[i] = z at *
   generalize lastI (-1) (L.take i) = p at *
   have h3 : 0 <= (i : Int) := by omega
   have h4 : (i : Int).toNat = i := rfl
   obtain ⟨k, hk⟩ : ∃ k : Nat, (z - p).toNat = k := ⟨_, rfl⟩
   have hzp : z - p = (k : Int) := by omega
   have hw1 : IntKind.i64.wrap (z - p) = (k : Int) := by rw [hzp]; exact IntWalk.i64_in _ (by omega)
   have hw2 : IntKind.u64.wrap (k : Int) = (k : Int) := by rw [IntKind.wrap_u64]; omega
   have HT1 : Hid ([x, m] ++ gapN (-1) (L.take (i + 1)) = ([x, m] ++ gapN (-1) (L.take i)) ++ [k]) := by
    show _ = _
    rw [HTk.out.1, hk, List.append_assoc]
   have HL1 := Lib.hid HTk.out.2
   generalize [x, m] ++ gapN (-1) (L.take i) = o at *
   have hbz := HBr.out.size
   have HS1 : Hid (B + 1 <= wr.heap.size) := by rw [<- HS0.out]; exact hbz
   clear HTk hk
   go_wp2_with (at_builtin; go_loud (refine wpList_append_own _ rfl _ _ 58 rfl (B + 1) 43 i0 _ 1 8 Try.underlying58 hi hz0 hz1 HZ2.out rfl (by decide) _ _ _ rfl (HO.out.below ((Below.refl _ _).alloc (Nat.le_refl _) _)) _ 1 1 [.int .u64 (k : Int)] rfl rfl (one_cellU (by simp)) one_oneU ?c3 ?c4 ?c5 ?_))
   case c3 => have := HLen.out; unfold maxLen; omega
   case c4 => have := HLen.out; omega
   case c5 => have := HS1.out; simp; omega
   intro v1 w4 hown hgrow _
   have HO4 : Hid (OwnU (B + 1) w4 v1 (o ++ [k])) := by
    show OwnU _ _ _ _
    unfold OwnU
    rw [List.length_append, List.map_append]
    exact hown
   have HB4 : Hid (Below W0.heap.size W0 w4) := (HBr.out.alloc hbz _).grown hgrow (by simp; omega) (fun q hq => by have := own_low HO.out hq; rw [HS0.out]; exact this)
   clear hown hgrow HO HBr hy
   go_wp2_with fail
   go_roundw
   case rel => exact ⟨i + 1, by omega, by go_num, by rw [HL1.out], by rw [HT1.out]; exact HO4.out, HB4.out⟩
   case measure => simp [intOf]; omega
  ·obtain rfl : i = m := by omega
   have hiz : ¬ (i : Int) < (i : Int) := by omega
   rw [List.take_of_length_le (show L.length <= i by rw [HM.out]; exact Nat.le_refl _)] at HO
   have HLs : Hid (([x, i] ++ gapN (-1) L).length <= 1000000) := by
    show _ <= _
    rw [List.length_append, gapN_len, HM.out]
    show 2 + i <= 1000000
    omega
   have HLt : Hid (∀ y ∈ [x, i] ++ gapN (-1) L, y < 18446744073709551616) := fun y hy => by
    rcases List.mem_append.1 hy with hy | hy
    ·simp only [List.mem_cons, List.not_mem_nil, or_false] at hy
     rcases hy with rfl | rfl <;> omega
    ·exact HGl.out y hy
   have CV := Lib.hid (Fr.var_any _ _ wr HLs.out HLt.out HO.out.nums)
   generalize bs (varsL ([x, i] ++ gapN (-1) L)) = t at *
   go_wp2_with fail
   refine CV.out.mono ?_
   rintro e w5 ⟨rfl, hb5⟩
   go_wp2_with fail
   go_ret
   exact ⟨congrArg (fun b => Ending.returned (.string b)) HE.out.symm, HEnd.out _ (HBr.out.trans (hb5.mono HBr.out.size))⟩
end Go.Proofs.Ytjcajeilhcjneaa.Po
/- What the program's Pack of postings answers. -/
set_option maxRecDepth 100000
namespace Go.Proofs.Ytjcajeilhcjneaa.Po
open Go.RowKit
open Fr (varL varsL bs BRow cellsB)
theorem brow_app {B : Nat} {w : World} {v : Value} {l : List UInt8} (h : BRow B w v l) (hB : B <= w.heap.size) (s : ByteArray) (hn : l.length + s.size <= 10000000) :
  ∃ v' w', (Builtin.append_ #[31, 9] 31 #[v, .string s]).run Try.prog w = .ok v' w' /\ BRow B w' v' (l ++ s.data.toList) /\ w.grownBy w' v.ownBlock /\ ∀ k, v'.ownBlock = some k -> v.ownBlock = some k \/ w.heap.size <= k := by
 obtain ⟨i0, hi, hz0, hz1, hz2⟩ := info_parts Try.infoB
 obtain ⟨v', w', hr, h1, h2, h3⟩ := Lib.run_append_own_string (P := Try.prog) w B 31 9 31 5 i0 Try.underlying31 Try.underlying9 hi hz0 hz1 hz2 v l.length (cellsB l) h s (by unfold maxLen; omega) (by omega) hB
 refine ⟨v', w', hr, ?_, h2, ?_⟩
 ·show World.ownsRow _ _ _ _ _ _ _
  have e : cellsB l ++ Lib.strCells s = cellsB (l ++ s.data.toList) := by rw [Fr.cellsB_append]; rfl
  have e2 : (l ++ s.data.toList).length = l.length + s.size := by simp
  rw [e2, <- e]
  exact h1
 ·intro k hk
  have hxl : (cellsB l).length = l.length := Fr.cellsB_length l
  rcases h.2 with ⟨rfl, hz⟩ | ⟨g, cap, cur, rfl, hbg, hg, hnc, hcm, hcs, htake⟩
  ·by_cases hm : s.size = 0
   ·rw [h3.2 ⟨rfl, hm⟩] at hk; cases hk
   ·have hr2 := run_append_nil_string (P := Try.prog) w 31 9 31 5 i0 (.int .u8 0) Try.underlying31 Try.underlying9 hi hz0 s (by omega) (by omega) (by rw [hz2]; omega)
    rw [hr] at hr2
    cases hr2
    have : w.heap.size = k := by injection hk
    exact .inr (by omega)
  ·by_cases hroom : l.length + s.size <= cap
   ·have hr2 := Lib.run_append_room_string (P := Try.prog) w 31 9 31 5 i0 Try.underlying31 Try.underlying9 hi hz1 g l.length cap cur hg s hroom (by omega)
    rw [hr] at hr2
    cases hr2
    exact .inl hk
   ·have hr2 := Lib.run_append_grow_string (P := Try.prog) w 31 9 31 5 i0 (.int .u8 0) Try.underlying31 Try.underlying9 hi hz0 ⟨g, 0, none⟩ l.length cap (cellsB l) (by rw [hz1, hxl]; omega) (World.ownsRow.cells (g := g) h rfl) s (by omega) (by omega) (by rw [hz2]; exact growslice_fits (by omega) (by omega))
    rw [hr] at hr2
    cases hr2
    have : w.heap.size = k := by injection hk
    exact .inr (by omega)
theorem wpList_brow_app {ops : Array Oper} {rest : List Oper} {o : Oper} {a : Act} {w : World} {Q : Exit -> Act -> World -> Prop} (hgd : o.guard = none) (sl x : Operand)
  (ho : o.op = .call { callee := .builtin .append, args := #[sl, x], argTypes := #[31, 9] }) (ht : o.type = 31) {B : Nat} {v : Value} {l : List UInt8} {s : ByteArray}
  (hs : a.eval sl = v) (hx : a.eval x = .string s) (hown : BRow B w v l) (hB : B <= w.heap.size) (hn : l.length + s.size <= 10000000)
  (h : ∀ v' w', BRow B w' v' (l ++ s.data.toList) -> w.grownBy w' v.ownBlock -> (∀ k, v'.ownBlock = some k -> v.ownBlock = some k \/ w.heap.size <= k) -> wpList Try.prog ops Q rest (a.put o.dst v') w') : wpList Try.prog ops Q (o :: rest) a w := by
 refine wpList_plain hgd fun _ hK => ?_
 obtain ⟨v', w', hr, h2, h3, h4⟩ := brow_app hown hB s hn
 unfold Oper.wp execOp
 simp only [ho, ht, resolve, invoke, builtin, Sem.run_bind, Sem.run_pure, Result.andThen_ok, List.map_toArray, List.map_cons, List.map_nil, hs, hx, hr]
 exact hK _ _ (h v' w' h2 h3 h4)
theorem str_lenP (s : ByteArray) : s.data.toList.length = s.size := by simp
theorem brow_slice {B : Nat} {w : World} {v : Value} {l : List UInt8} (h : BRow B w v l) : ∃ ao c, v = .slice ao l.length c := by
 rcases h.2 with ⟨hv, hn⟩ | ⟨g, cap, cur, hv, _⟩
 ·exact ⟨none, 0, by rw [hv, hn]⟩
 ·exact ⟨_, cap, hv⟩
theorem brow_below {B : Nat} {w w' : World} {v : Value} {l : List UInt8} (h : BRow B w v l) (hb : Below w.heap.size w w') : BRow B w' v l := own_belowP h hb
theorem brow_grown {B : Nat} {w w' : World} {v : Value} {l : List UInt8} {row : Option Nat} (h : BRow B w v l) (hg : w.grownBy w' row) (hr : ∀ k, v.ownBlock = some k -> row ≠ some k) : BRow B w' v l := by
 refine ⟨h.1, ?_⟩
 rcases h.2 with hn | ⟨g, cap, cur, rfl, hbg, hh, rest⟩
 ·exact .inl hn
 ·exact .inr ⟨g, cap, cur, rfl, hbg, by rw [hg.block g (Array.getElem?_eq_some_iff.1 hh).1 (fun e => hr g rfl e.symm)]; exact hh, rest⟩
def ApartB (v u : Value) : Prop := ∀ k, v.ownBlock = some k -> u.ownBlock ≠ some k
theorem ApartB.symm {v u : Value} (h : ApartB v u) : ApartB u v := fun k h1 h2 => h k h2 h1
theorem brow_lt {B : Nat} {w : World} {v : Value} {l : List UInt8} (h : BRow B w v l) {k : Nat} (hk : v.ownBlock = some k) : B <= k /\ k < w.heap.size := by
 rcases h.2 with ⟨rfl, _⟩ | ⟨g, cap, cur, rfl, hbg, hh, _⟩
 ·cases hk
 ·have : g = k := by injection hk
  subst this
  exact ⟨hbg, (Array.getElem?_eq_some_iff.1 hh).1⟩
theorem apart_app {B : Nat} {w : World} {v v' u : Value} {m : List UInt8} (h : ApartB v u) (hu : BRow B w u m) (hw : ∀ k, v'.ownBlock = some k -> v.ownBlock = some k \/ w.heap.size <= k) : ApartB v' u := fun k hk hk2 => by
 rcases hw k hk with e | e
 ·exact h k e hk2
 ·have := (brow_lt hu hk2).2; omega
theorem pvar_two (W : World) (g x y : Nat) (hg : W.heap.size = g) (hx : x < 18446744073709551616) (hy : y < 18446744073709551616) : Calls Try.prog 21 #[.slice (some ⟨g, 0, none⟩) 2 2] (W.alloc (.cells #[.int .u64 (x : Int), .int .u64 (y : Int)] 43)) fun e w' => e = .returned (.string (bs (varL x ++ varL y))) /\ Below W.heap.size W w' := by
 subst hg
 have hO : OwnU 0 (W.alloc (.cells #[.int .u64 (x : Int), .int .u64 (y : Int)] 43)) (.slice (some ⟨W.heap.size, 0, none⟩) 2 2) [x, y] := OwnU.two (heap_newP W _) (Nat.zero_le _)
 refine (Fr.var_any [x, y] _ _ (by simp) (fun z hz => ?_) hO.nums).mono ?_
 ·simp only [List.mem_cons, List.not_mem_nil, or_false] at hz
  rcases hz with rfl | rfl <;> assumption
 ·rintro e w' ⟨rfl, hb⟩
  refine ⟨?_, ((Below.refl _ W).alloc (Nat.le_refl _) _).trans (hb.mono (by simp))⟩
  have : varsL [x, y] = varL x ++ varL y := by unfold Fr.varsL; simp
  rw [this]
theorem pvar_one (W : World) (g x : Nat) (hg : W.heap[g]? = some (.cells #[.int .u64 (x : Int)] 43 (0, 0))) (hx : x < 18446744073709551616) : Calls Try.prog 21 #[.slice (some ⟨g, 0, none⟩) 1 1] W fun e w' => e = .returned (.string (bs (varL x))) /\ Below W.heap.size W w' := by
 have hO : OwnU 0 W (.slice (some ⟨g, 0, none⟩) 1 1) [x] := ⟨rfl, .inr ⟨_, 1, _, rfl, Nat.zero_le _, hg, Nat.le_refl _, by unfold maxLen; omega, rfl, rfl⟩⟩
 refine (Fr.var_any [x] _ _ (by simp) (fun z hz => ?_) hO.nums).mono ?_
 ·rw [List.mem_singleton.1 hz]; exact hx
 ·rintro e w' ⟨rfl, hb⟩
  refine ⟨?_, hb⟩
  have : varsL [x] = varL x := by unfold Fr.varsL; simp
  rw [this]
theorem take8_len (L : List Pg) (q : Nat) : (allP (lastD (-1) (L.take (8 * q))) ((L.drop (8 * q)).take 8)).length = (allP (-1) (L.take (8 * q + 8))).length - (allP (-1) (L.take (8 * q))).length := by
 rw [List.take_add, allP_app, List.length_append]; omega
set_option maxHeartbeats 8000000 in
theorem ppack_all (L : List Pg) (v : Value) (w : World) (h : SlP w v L) (hn : L.length <= maxLen) (hp : ∀ p ∈ L, p.pos.length <= maxLen) :
  Calls Try.prog 11 #[v] w fun e w' => e = .returned (if RightG L then .tuple #[.string (bs (bytesP L)), .int .i64 0] else .tuple #[.string ⟨#[]⟩, .int .i64 1]) /\ Below w.heap.size w w' := by
 have CR := Lib.hid (pright_any L v w h hn hp)
 by_cases hR : RightG L
 ·rw [if_pos hR]
  rw [decide_eq_true hR] at CR
  have HCh := Lib.hid (right_chain hR)
  have hn := right_len hR
  obtain ⟨ao, c, rfl, _, hc⟩ := h
  have HC := Lib.hid hc
  obtain ⟨n, hl⟩ : ∃ n, L.length = n := ⟨_, rfl⟩
  have HN := Lib.hid hl
  have HE : Hid (∀ q, ((n = 0 /\ q = 0) \/ (8 * q < n /\ n <= 8 * q + 8)) -> bytesP L = varL n ++ (skG L q ++ allP (-1) L)) := fun q hq => by
   unfold bytesP
   rw [hl, skG_all L q (by rw [hl]; exact hq)]
  rw [hl] at hn CR ⊢
  clear hl hc hR hp
  go_enter Try.func11, Try.ntmps11
  go_wp2_with fail
  refine CR.out.mono ?_
  rintro e w1 ⟨rfl, hb1⟩
  have HB1 := Lib.hid hb1
  clear hb1
  go_wp2_with fail
  go_loopw [4, 5, 6, 7, 8, 16] (fun sv bv fv lv hv iv wr => ∃ (i q k : Nat) (s b : List UInt8), i <= n /\ iv = .int .i64 (i : Int) /\ ((i = 0 /\ q = 0) \/ (8 * q < i /\ i <= 8 * q + 8)) /\ lv = .int .i64 (lastD (-1) (L.take i)) /\ hv = .int .i64 (lastD (-1) (L.take (8 * q))) /\ fv = .int .i64 (k : Int) /\
    s.length <= 20 * q /\ b.length <= 4004 * i /\ k <= b.length /\ Hid (s = skG L q /\ b = allP (-1) (L.take i) /\ k = (allP (-1) (L.take (8 * q))).length) /\ Hid (BRow w.heap.size wr sv s) /\ Hid (BRow w.heap.size wr bv b) /\ Hid (ApartB sv bv) /\ Hid (Below w.heap.size w wr)) (fun _ _ _ _ _ iv _ => n - (intOf iv).toNat)
  case atStart => exact ⟨0, 0, 0, [], [], Nat.zero_le _, rfl, .inl ⟨rfl, rfl⟩, rfl, rfl, rfl, Nat.zero_le _, Nat.zero_le _, Nat.le_refl _, ⟨rfl, rfl, rfl⟩, BRow.nil _ _, BRow.nil _ _, fun k hk => (by cases hk), HB1.out⟩
  case round =>
   clear HB1
   obtain ⟨i, q, k, s, b, hi1, rfl, hq, rfl, rfl, rfl, hs, hb, hkb, HT, HS, HBy, HA, HB⟩ := hrel
   obtain ⟨so, sc, rfl⟩ := brow_slice HS.out
   obtain ⟨bo, bc, rfl⟩ := brow_slice HBy.out
   by_cases hlt : i < n
   ·have hiz : (i : Int) < (n : Int) := by omega
    have hiL : i < L.length := by rw [HN.out]; exact hlt
    obtain ⟨g, off, ve, rfl, hg, h1, h2, h3'⟩ := HC.out i hiL
    have x1 := (HB.out.cell (p := ⟨g, _, none⟩) hg).trans h1
    have x2 := (HB.out.cell (p := ⟨g, _, none⟩) hg).trans h2
    obtain ⟨c1, c2, c3, c4⟩ := chain_at (-1) L i hiL HCh.out
    have CO := Lib.hid (fun W (hW : Below w.heap.size w W) => ppacked_any (lastD (-1) (L.take i)) L[i] ve W (h3'.below hW) c4 c1 c2 c3)
    have holen := oneP_len (a := lastD (-1) (L.take i)) (p := L[i]) c4 c2 c3
    have hpl := rise_len c3 (by omega)
    have HTk : Hid (L.take (i + 1) = L.take i ++ [L[i]]) := List.take_succ_eq_append_getElem hiL
    have HLa : Hid (lastD (-1) (L.take (i + 1)) = L[i].doc) := by show _ = _; rw [HTk.out, lastD_snoc]
    have HAl : Hid (allP (-1) (L.take (i + 1)) = allP (-1) (L.take i) ++ oneP (lastD (-1) (L.take i)) L[i]) := by show _ = _; rw [HTk.out, allP_snoc]
    obtain ⟨O, hO⟩ : ∃ O, bs (oneP (lastD (-1) (L.take i)) L[i]) = O := ⟨_, rfl⟩
    have hOs : O.size <= 4004 := by rw [<- hO, Fr.bs_size]; omega
    have HO : Hid (O.data.toList = oneP (lastD (-1) (L.take i)) L[i]) := by show _ = _; rw [<- hO, bs_list]
    rw [hO] at CO
    have HFl : Hid (i = 8 * q + 8 -> skG L (q + 1) = skG L q ++ (varL (lastD (-1) (L.take i) - lastD (-1) (L.take (8 * q))).toNat ++ varL (b.length - k))) := fun hq8 => by
     rw [skG, show 8 * (q + 1) = i by omega, take8_len, HT.out.2.1, HT.out.2.2, <- hq8]
    have HMo : Hid (i = 8 * q + 8 -> lastD (-1) (L.take (8 * q)) <= lastD (-1) (L.take i)) := fun hq8 => by
     have := last_mono HCh.out (8 * q) 8
     rwa [<- hq8] at this
    have hl1 := last_take HCh.out i
    have hl2 := last_take HCh.out (8 * q)
    have HL8 : Hid (i = 8 * q + 8 -> lastD (-1) (L.take i) = lastD (-1) (L.take (8 * (q + 1)))) := fun hq8 => by rw [show 8 * (q + 1) = i by omega]
    have HK8 : Hid (i = 8 * q + 8 -> b.length = (allP (-1) (L.take (8 * (q + 1)))).length) := fun hq8 => by rw [show 8 * (q + 1) = i by omega, HT.out.2.1]
    have HVe : Hid (∃ ao' m c', ve = .slice ao' m c') := by
     obtain ⟨ao', c', hv', _⟩ := h3'
     exact ⟨ao', _, c', hv'⟩
    clear hO h1 h2 h3' hg c1 c2 c3 c4 holen HTk hpl
    generalize L[i].doc = d at *
    obtain ⟨la, hla⟩ : ∃ la, lastD (-1) (L.take i) = la := ⟨_, rfl⟩
    obtain ⟨ah, hah⟩ : ∃ ah, lastD (-1) (L.take (8 * q)) = ah := ⟨_, rfl⟩
    rw [hla] at hl1
    rw [hah] at hl2
    have HLA := Lib.hid hla
    have HAH := Lib.hid hah
    rw [hla, hah]
    rw [hla] at CO HFl HMo HL8
    rw [hah] at HFl HMo
    clear hla hah
    obtain ⟨eo, m, ec, rfl⟩ := HVe.out
    have h3 : 0 <= (i : Int) := by omega
    have h4 : (i : Int).toNat = i := rfl
    have HAn : Hid (b ++ O.data.toList = allP (-1) (L.take (i + 1))) := by
     show _ = _
     rw [HAl.out, HT.out.2.1, HO.out, HLA.out]
    obtain ⟨W0, hW0⟩ : ∃ W0, wr.alloc (.cells #[.int .i64 d, .slice eo m ec] 37) = W0 := ⟨_, rfl⟩
    obtain ⟨R, hRs⟩ : ∃ R, wr.heap.size = R := ⟨_, rfl⟩
    have hb0 : W0.heap[R]? = some (.cells #[.int .i64 d, .slice eo m ec] 37 (0, 0)) := by rw [<- hW0, <- hRs]; exact heap_newP wr _
    have hbl : R < W0.heap.size := (Array.getElem?_eq_some_iff.1 hb0).1
    have HB0 : Hid (Below wr.heap.size wr W0) := by rw [<- hW0]; exact (Below.refl _ wr).alloc (Nat.le_refl _) _
    have HX : Hid (∀ W, Below W0.heap.size W0 W -> W.cell? ⟨R, 0, none⟩ = some (.int .i64 d) /\ W.cell? ⟨R, 1, none⟩ = some (.slice eo m ec)) := fun W hW => by
     have := (hW.block R hbl).trans hb0
     exact ⟨cell_atP this 0, cell_atP this 1⟩
    have HW0 := Lib.hid hW0
    have HS0 : Hid (W0.heap.size = R + 1) := by show _ = _; rw [<- hW0, World.size_alloc, hRs]
    have HBW : Hid (∀ W, Below W0.heap.size W0 W -> Below wr.heap.size wr W /\ Below w.heap.size w W) := fun W hW => by
     have h1 := HB0.out.trans (hW.mono HB0.out.size)
     exact ⟨h1, HB.out.trans (h1.mono HB.out.size)⟩
    have hbz := HB.out.size
    clear hb0 hW0 hbl
    by_cases hfl : i = 8 * q + 8
    ·have hip : (0 : Int) < (i : Int) := by omega
     have hrm2 : (i : Int) % 8 = 0 := by omega
     have hrm : (i : Int).tmod 8 = 0 := by rw [Int.tmod_eq_emod_of_nonneg (by omega)]; exact hrm2
     obtain ⟨x, hx⟩ : ∃ x : Nat, (la - ah).toNat = x := ⟨_, rfl⟩
     obtain ⟨y, hy⟩ : ∃ y : Nat, b.length - k = y := ⟨_, rfl⟩
     have hFl := HFl.out hfl
     have hMo := HMo.out hfl
     rw [hx, hy] at hFl
     have hxe : la - ah = (x : Int) := by omega
     have hye : (b.length : Int) - (k : Int) = (y : Int) := by omega
     have hw0 : IntKind.i64.wrap (la - ah) = (x : Int) := by rw [hxe]; exact IntWalk.i64_in _ (by omega)
     have hw1 : IntKind.i64.wrap ((b.length : Int) - (k : Int)) = (y : Int) := by rw [hye]; exact IntWalk.i64_in _ (by omega)
     have hw2 : IntKind.u64.wrap (x : Int) = (x : Int) := by rw [IntKind.wrap_u64]; omega
     have hw3 : IntKind.u64.wrap (y : Int) = (y : Int) := by rw [IntKind.wrap_u64]; omega
     have hv1 := Fr.varL_ten x (by omega)
     have hv2 := Fr.varL_ten y (by omega)
     have CV := Lib.hid (fun W g (hg : W.heap.size = g) => pvar_two W g x y hg (by omega) (by omega))
     have HSn : Hid ((bs (varL x ++ varL y)).data.toList = varL x ++ varL y) := bs_list _
     have hTs : (bs (varL x ++ varL y)).size <= 20 := by rw [Fr.bs_size, List.length_append]; omega
     have HFs : Hid (s ++ (varL x ++ varL y) = skG L (q + 1)) := by show _ = _; rw [hFl, HT.out.1]
     have HLq := Lib.hid (HL8.out hfl)
     have HKq := Lib.hid (HK8.out hfl)
     have hq1 : 8 * (q + 1) < i + 1 /\ i + 1 <= 8 * (q + 1) + 8 := by omega
     generalize bs (varL x ++ varL y) = T at *
     clear HFl HMo hFl hMo HL8 HK8 HAl hx hy hfl
     go_wp2_with fail
     rw [HW0.out]
     refine (CV.out _ _ HS0.out).mono ?_
     rintro e w2 ⟨rfl, hb2⟩
     obtain ⟨b2, c2⟩ := HBW.out _ hb2
     have hz2 := hb2.size
     have hs0 := HS0.out
     have HS2 := Lib.hid (brow_below HS.out b2)
     have HZ2 : Hid (w.heap.size <= w2.heap.size) := c2.size
     go_wp2_with (at_builtin; go_loud (refine wpList_brow_app rfl _ _ rfl rfl rfl rfl HS2.out HZ2.out ?c1 ?_))
     case c1 => omega
     intro v3 w3 hr3 hg3 hw3
     have HS3 : Hid (BRow w.heap.size w3 v3 (skG L (q + 1))) := by show BRow _ _ _ _; rw [<- HFs.out, <- HSn.out]; exact hr3
     have HY3 : Hid (BRow w.heap.size w3 (.slice bo b.length bc) b) := brow_grown (brow_below HBy.out b2) hg3 fun k hk e => HA.out k e hk
     have HA3 : Hid (ApartB v3 (.slice bo b.length bc)) := apart_app HA.out (brow_below HBy.out b2) hw3
     have HB3 : Hid (Below W0.heap.size W0 w3 \/ True) := .inr trivial
     have HB3 : Hid (Below w.heap.size w w3) := c2.grown hg3 c2.size fun k hk => (brow_lt HS.out hk).1
     have HR3 : Hid (w3.cell? ⟨R, 0, none⟩ = some (.int .i64 d) /\ w3.cell? ⟨R, 1, none⟩ = some (.slice eo m ec)) := by
      have hR2 : R < w2.heap.size := by omega
      have e : w3.heap[R]? = w2.heap[R]? := hg3.block R hR2 fun e => by
       have := (brow_lt HS.out e.symm).2
       omega
      obtain ⟨p0, p1⟩ := HX.out _ hb2
      exact ⟨by rw [<- p0]; simp only [World.cell?, e], by rw [<- p1]; simp only [World.cell?, e]⟩
     have HRz : Hid (R < w3.heap.size) := by
      have h2 := hg3.size
      show _ < _
      omega
     have hsl : (skG L (q + 1)).length <= 20 * (q + 1) := by rw [<- HFs.out, List.length_append, List.length_append]; omega
     clear hr3 hg3 hw3 b2 c2 hb2 x1 x2
     obtain ⟨z0, z1⟩ := HR3.out
     go_wp2_with fail
     refine (CO.out _ HB3.out).mono ?_
     rintro e w4 ⟨rfl, hb4⟩
     have HY4 := Lib.hid (brow_below HY3.out hb4)
     have HS4 := Lib.hid (brow_below HS3.out hb4)
     have HB4 := Lib.hid (HB3.out.trans (hb4.mono HB3.out.size))
     have HZ4 : Hid (w.heap.size <= w4.heap.size) := HB4.out.size
     have HRl : Hid (R < w4.heap.size) := by
      have h1 := HRz.out
      have h2 := hb4.size
      show _ < _
      omega
     have HR4 : Hid (w4.cell? ⟨R, 0, none⟩ = some (.int .i64 d) /\ w4.cell? ⟨R, 1, none⟩ = some (.slice eo m ec)) :=
      ⟨(hb4.cell (p := ⟨R, 0, none⟩) HRz.out).trans HR3.out.1, (hb4.cell (p := ⟨R, 1, none⟩) HRz.out).trans HR3.out.2⟩
     clear hb4 z0 z1
     go_wp2_with (at_builtin; go_loud (refine wpList_brow_app rfl _ _ rfl rfl rfl rfl HY4.out HZ4.out ?c2 ?_))
     case c2 => omega
     intro v5 w5 hr5 hg5 hw5
     have HY5 : Hid (BRow w.heap.size w5 v5 (allP (-1) (L.take (i + 1)))) := by show BRow _ _ _ _; rw [<- HAn.out]; exact hr5
     have HS5 : Hid (BRow w.heap.size w5 v3 (skG L (q + 1))) := brow_grown HS4.out hg5 fun k hk e => HA3.out k hk e
     have HA5 : Hid (ApartB v3 v5) := (apart_app HA3.out.symm HS4.out hw5).symm
     have HB5 : Hid (Below w.heap.size w w5) := HB4.out.grown hg5 HB4.out.size fun k hk => (brow_lt HY4.out hk).1
     have HR5 : Hid (w5.cell? ⟨R, 0, none⟩ = some (.int .i64 d)) := by
      have e : w5.heap[R]? = w4.heap[R]? := hg5.block R HRl.out fun e => by
       have := (brow_lt HBy.out e.symm).2
       omega
      show _ = _
      rw [<- HR4.out.1]; simp only [World.cell?, e]
     have hbl5 : (allP (-1) (L.take (i + 1))).length <= 4004 * (i + 1) := by rw [<- HAn.out, List.length_append, str_lenP]; omega
     have hkb5 : b.length <= (allP (-1) (L.take (i + 1))).length := by rw [<- HAn.out, List.length_append]; omega
     clear hr5 hg5 hw5
     have y0 := HR5.out
     go_wp2_with fail
     go_roundw
     case rel => exact ⟨i + 1, q + 1, b.length, (skG L (q + 1)), allP (-1) (L.take (i + 1)), by omega, by go_num, .inr hq1, by rw [HLa.out], by rw [HLq.out], rfl, hsl, hbl5, hkb5, ⟨rfl, rfl, HKq.out⟩, HS5.out, HY5.out, HA5.out, HB5.out⟩
     case measure => simp [intOf]; omega
    ·have hq1 : 8 * q < i + 1 /\ i + 1 <= 8 * q + 8 := by omega
     have HB3 : Hid (Below w.heap.size w W0) := (HBW.out W0 (Below.refl _ _)).2
     have HS3 : Hid (BRow w.heap.size W0 (.slice so s.length sc) s) := brow_below HS.out HB0.out
     have HY3 : Hid (BRow w.heap.size W0 (.slice bo b.length bc) b) := brow_below HBy.out HB0.out
     have HA3 := HA
     have HR3 := Lib.hid (HX.out W0 (Below.refl _ _))
     have HRz : Hid (R < W0.heap.size) := by have := HS0.out; show _ < _; omega
     by_cases hi0 : i = 0
     ·have hip : ¬ (0 : Int) < (i : Int) := by omega
      have hpb : decide (0 < i) = false := decide_eq_false (by omega)
      clear HFl HMo hfl HL8 HK8 HAl hi0
      go_wp2_with fail
      obtain ⟨z0, z1⟩ := HR3.out
      rw [HW0.out]
      go_wp2_with fail
      refine (CO.out _ HB3.out).mono ?_
      rintro e w4 ⟨rfl, hb4⟩
      have HY4 := Lib.hid (brow_below HY3.out hb4)
      have HS4 := Lib.hid (brow_below HS3.out hb4)
      have HB4 := Lib.hid (HB3.out.trans (hb4.mono HB3.out.size))
      have HZ4 : Hid (w.heap.size <= w4.heap.size) := HB4.out.size
      have HRl : Hid (R < w4.heap.size) := by
       have h1 := HRz.out
       have h2 := hb4.size
       show _ < _
       omega
      have HR4 : Hid (w4.cell? ⟨R, 0, none⟩ = some (.int .i64 d) /\ w4.cell? ⟨R, 1, none⟩ = some (.slice eo m ec)) :=
       ⟨(hb4.cell (p := ⟨R, 0, none⟩) HRz.out).trans HR3.out.1, (hb4.cell (p := ⟨R, 1, none⟩) HRz.out).trans HR3.out.2⟩
      clear hb4 z0 z1
      go_wp2_with (at_builtin; go_loud (refine wpList_brow_app rfl _ _ rfl rfl rfl rfl HY4.out HZ4.out ?c2 ?_))
      case c2 => omega
      intro v5 w5 hr5 hg5 hw5
      have HY5 : Hid (BRow w.heap.size w5 v5 (allP (-1) (L.take (i + 1)))) := by show BRow _ _ _ _; rw [<- HAn.out]; exact hr5
      have HS5 : Hid (BRow w.heap.size w5 (.slice so s.length sc) s) := brow_grown HS4.out hg5 fun k hk e => HA3.out k hk e
      have HA5 : Hid (ApartB (.slice so s.length sc) v5) := (apart_app HA3.out.symm HS4.out hw5).symm
      have HB5 : Hid (Below w.heap.size w w5) := HB4.out.grown hg5 HB4.out.size fun k hk => (brow_lt HY4.out hk).1
      have HR5 : Hid (w5.cell? ⟨R, 0, none⟩ = some (.int .i64 d)) := by
       have e : w5.heap[R]? = w4.heap[R]? := hg5.block R HRl.out fun e => by
        have := (brow_lt HBy.out e.symm).2
        omega
       show _ = _
       rw [<- HR4.out.1]; simp only [World.cell?, e]
      have hbl5 : (allP (-1) (L.take (i + 1))).length <= 4004 * (i + 1) := by rw [<- HAn.out, List.length_append, str_lenP]; omega
      have hkb5 : k <= (allP (-1) (L.take (i + 1))).length := by rw [<- HAn.out, List.length_append]; omega
      clear hr5 hg5 hw5
      have y0 := HR5.out
      go_wp2_with fail
      go_roundw
      case rel => exact ⟨i + 1, q, k, s, allP (-1) (L.take (i + 1)), by omega, by go_num, .inr hq1, by rw [HLa.out], by rw [HAH.out], rfl, hs, hbl5, hkb5, ⟨HT.out.1, rfl, HT.out.2.2⟩, HS5.out, HY5.out, HA5.out, HB5.out⟩
      case measure => simp [intOf]; omega
     ·have hip : (0 : Int) < (i : Int) := by omega
      have hrm2 : ((i : Int) % 8 == 0) = false := beq_eq_false_iff_ne.2 (by omega)
      have hrm3 : ¬ (i : Int) % 8 = 0 := by omega
      have hrm : ((i : Int).tmod 8 == 0) = false := by rw [Int.tmod_eq_emod_of_nonneg (by omega)]; exact hrm2
      clear HFl HMo hfl HL8 HK8 HAl hi0
      go_wp2_with fail
      obtain ⟨z0, z1⟩ := HR3.out
      rw [HW0.out]
      go_wp2_with fail
      refine (CO.out _ HB3.out).mono ?_
      rintro e w4 ⟨rfl, hb4⟩
      have HY4 := Lib.hid (brow_below HY3.out hb4)
      have HS4 := Lib.hid (brow_below HS3.out hb4)
      have HB4 := Lib.hid (HB3.out.trans (hb4.mono HB3.out.size))
      have HZ4 : Hid (w.heap.size <= w4.heap.size) := HB4.out.size
      have HRl : Hid (R < w4.heap.size) := by
       have h1 := HRz.out
       have h2 := hb4.size
       show _ < _
       omega
      have HR4 : Hid (w4.cell? ⟨R, 0, none⟩ = some (.int .i64 d) /\ w4.cell? ⟨R, 1, none⟩ = some (.slice eo m ec)) :=
       ⟨(hb4.cell (p := ⟨R, 0, none⟩) HRz.out).trans HR3.out.1, (hb4.cell (p := ⟨R, 1, none⟩) HRz.out).trans HR3.out.2⟩
      clear hb4 z0 z1
      go_wp2_with (at_builtin; go_loud (refine wpList_brow_app rfl _ _ rfl rfl rfl rfl HY4.out HZ4.out ?c2 ?_))
      case c2 => omega
      intro v5 w5 hr5 hg5 hw5
      have HY5 : Hid (BRow w.heap.size w5 v5 (allP (-1) (L.take (i + 1)))) := by show BRow _ _ _ _; rw [<- HAn.out]; exact hr5
      have HS5 : Hid (BRow w.heap.size w5 (.slice so s.length sc) s) := brow_grown HS4.out hg5 fun k hk e => HA3.out k hk e
      have HA5 : Hid (ApartB (.slice so s.length sc) v5) := (apart_app HA3.out.symm HS4.out hw5).symm
      have HB5 : Hid (Below w.heap.size w w5) := HB4.out.grown hg5 HB4.out.size fun k hk => (brow_lt HY4.out hk).1
      have HR5 : Hid (w5.cell? ⟨R, 0, none⟩ = some (.int .i64 d)) := by
       have e : w5.heap[R]? = w4.heap[R]? := hg5.block R HRl.out fun e => by
        have := (brow_lt HBy.out e.symm).2
        omega
       show _ = _
       rw [<- HR4.out.1]; simp only [World.cell?, e]
      have hbl5 : (allP (-1) (L.take (i + 1))).length <= 4004 * (i + 1) := by rw [<- HAn.out, List.length_append, str_lenP]; omega
      have hkb5 : k <= (allP (-1) (L.take (i + 1))).length := by rw [<- HAn.out, List.length_append]; omega
      clear hr5 hg5 hw5
      have y0 := HR5.out
      go_wp2_with fail
      go_roundw
      case rel => exact ⟨i + 1, q, k, s, allP (-1) (L.take (i + 1)), by omega, by go_num, .inr hq1, by rw [HLa.out], by rw [HAH.out], rfl, hs, hbl5, hkb5, ⟨HT.out.1, rfl, HT.out.2.2⟩, HS5.out, HY5.out, HA5.out, HB5.out⟩
      case measure => simp [intOf]; omega
   ·obtain rfl : i = n := by omega
    have hiz : ¬ (i : Int) < (i : Int) := by omega
    have HF : Hid (bs (varL i) ++ bs s ++ bs b = bs (bytesP L)) := by
     show _ = _
     rw [HE.out q hq, HT.out.1, HT.out.2.1, bs_app, bs_app, List.append_assoc, List.take_of_length_le (show L.length <= i by rw [HN.out]; exact Nat.le_refl _)]
    have hv1 := Fr.varL_ten i (by omega)
    have hT1 : (bs (varL i)).size <= 10 := by rw [Fr.bs_size]; exact hv1
    have hS1 : (bs s).size <= 20 * q := by rw [Fr.bs_size]; exact hs
    have hB1 : (bs b).size <= 4004 * i := by rw [Fr.bs_size]; exact hb
    have CV := Lib.hid (pvar_one (wr.alloc (.cells #[.int .u64 (i : Int)] 43)).drew wr.heap.size i (heap_newP wr _) (by omega))
    have HKC : Hid (∀ W, Below wr.heap.size wr W -> (convert 31 9 (.slice so s.length sc)).run Try.prog W = .ok (.string (bs s)) W /\ (convert 31 9 (.slice bo b.length bc)).run Try.prog W = .ok (.string (bs b)) W) := fun W hW =>
     ⟨(brow_below HS.out hW).text, (brow_below HBy.out hW).text⟩
    generalize bs (varL i) = T at *
    generalize bs s = S1 at *
    generalize bs b = S2 at *
    have HK : Hid (∀ W W' : World, (Below wr.heap.size wr W /\ (convert 31 9 (.slice so s.length sc)).run Try.prog W = .ok (.string S1) W /\ (convert 31 9 (.slice bo b.length bc)).run Try.prog W = .ok (.string S2) W) -> Below W.heap.size W W' -> (Below wr.heap.size wr W' /\ (convert 31 9 (.slice so s.length sc)).run Try.prog W' = .ok (.string S1) W' /\ (convert 31 9 (.slice bo b.length bc)).run Try.prog W' = .ok (.string S2) W')) := fun W W' h1 h2 => by
     have h3 := h1.1.trans (h2.mono h1.1.size)
     exact ⟨h3, HKC.out _ h3⟩
    have HK0 : Hid ((Below wr.heap.size wr wr.drew /\ (convert 31 9 (.slice so s.length sc)).run Try.prog wr.drew = .ok (.string S1) wr.drew /\ (convert 31 9 (.slice bo b.length bc)).run Try.prog wr.drew = .ok (.string S2) wr.drew)) := ⟨(Below.refl _ wr).drew, HKC.out _ (Below.refl _ wr).drew⟩
    have HK1 : Hid ((Below wr.heap.size wr (wr.alloc (.cells #[.int .u64 (i : Int)] 43)).drew /\ (convert 31 9 (.slice so s.length sc)).run Try.prog (wr.alloc (.cells #[.int .u64 (i : Int)] 43)).drew = .ok (.string S1) (wr.alloc (.cells #[.int .u64 (i : Int)] 43)).drew /\ (convert 31 9 (.slice bo b.length bc)).run Try.prog (wr.alloc (.cells #[.int .u64 (i : Int)] 43)).drew = .ok (.string S2) (wr.alloc (.cells #[.int .u64 (i : Int)] 43)).drew)) := by
     have h3 := ((Below.refl _ wr).alloc (Nat.le_refl _) (.cells #[.int .u64 (i : Int)] 43)).drew
     exact ⟨h3, HKC.out _ h3⟩
    have HBe : Hid (∀ W, Below wr.heap.size wr W -> Below w.heap.size w W) := fun W hW => HB.out.trans (hW.mono HB.out.size)
    have hwi : IntKind.u64.wrap (i : Int) = (i : Int) := by rw [IntKind.wrap_u64]; omega
    have a1 : ¬ 9223372036854775807 < T.size + S1.size := by omega
    have a2 : ¬ 9223372036854775807 < T.size + S1.size + S2.size := by omega
    clear HKC hv1 hT1 hS1 hB1 HE HC HN CR HS HBy HA HT
    go_wp2_with fail
    go_region_held3 (fun W : World => Below wr.heap.size wr W /\ (convert 31 9 (.slice so s.length sc)).run Try.prog W = .ok (.string S1) W /\ (convert 31 9 (.slice bo b.length bc)).run Try.prog W = .ok (.string S2) W)
     (first | exact HK0.out | exact HK1.out | exact HK.out _ _ (by assumption) (by assumption) | exact HK.out _ _ HK1.out (by assumption))
     (first | (go_at_call 21; refine CV.out.mono ?_; rintro e w' ⟨rfl, hbx⟩))
    rename_i hHeld
    have HBF := Lib.hid (HBe.out _ hHeld.1)
    clear hHeld hbx a1 a2
    go_wp2
    go_ret2
    exact ⟨congrArg (fun t => Ending.returned (.tuple #[.string t, .int .i64 0])) HF.out, HBF.out⟩
 ·rw [if_neg hR]
  rw [decide_eq_false hR] at CR
  obtain ⟨ao, c, rfl, _, _⟩ := h
  clear hR hp
  go_enter Try.func11, Try.ntmps11
  go_wp2_with fail
  refine CR.out.mono ?_
  rintro e w1 ⟨rfl, hb1⟩
  go_wp2_with fail
  go_ret2
  exact ⟨rfl, hb1⟩
end Go.Proofs.Ytjcajeilhcjneaa.Po

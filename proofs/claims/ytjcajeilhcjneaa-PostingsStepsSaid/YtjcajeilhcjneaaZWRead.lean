/- Numbers and texts read: what ToVar and ToText answer, and the document's own: the same. -/
import Derived.Test.YtjcajeilhcjneaaZWFix
import Derived.Deep.RegionWith
import Derived.IntWalk
import Derived.Test.YtjcajeilhcjneaaZBase
import Derived.Test.YtjcajeilhcjneaaZWMath
import Derived.Deep.QuietTactic

namespace Go.Proofs.Ytjcajeilhcjneaa.Fr
open Go.RowKit
theorem ext_drop (s : ByteArray) (n : Nat) : s.extract n s.size = bs (s.data.toList.drop n) := by
 apply ByteArray.ext
 rw [ByteArray.data_extract]
 unfold bs
 apply Array.ext'
 rw [Array.toList_extract]
 simp only [List.extract_eq_take_drop]
 exact List.take_of_length_le (by rw [List.length_drop, Array.length_toList]; exact Nat.le_refl _)
theorem toVar_yes {s : ByteArray} {v : Nat} {r : List UInt8} (w : World) (hs : s.size <= maxLen) (h : rdV s.data.toList = some (v, r)) :
  Calls Try.prog 35 #[.string s] w fun e w' => e = .returned (.tuple #[.int .u64 (v : Int), .string (bs r), .bool true]) /\ Below w.heap.size w w' := by
 obtain ⟨_, _, h3, _, _, h6, h7⟩ := rdV_some h
 refine (toVar_some s _ w hs rfl h3).mono fun e w' ⟨he, hb⟩ => ⟨?_, hb⟩
 rw [he, ext_drop, <- h6, <- h7]
theorem toVar_no {s : ByteArray} (w : World) (hs : s.size <= maxLen) (h : rdV s.data.toList = none) :
  Calls Try.prog 35 #[.string s] w fun e w' => e = .returned (.tuple #[.int .u64 0, .string ⟨#[]⟩, .bool false]) /\ Below w.heap.size w w' :=
 toVar_none s w hs (rdV_none h)
end Go.Proofs.Ytjcajeilhcjneaa.Fr
/- The document's reader of postings' bytes. -/
namespace Go.Proofs.Ytjcajeilhcjneaa.Po
open Go.RowKit
open Fr (rdV bs str_len cell_at)
theorem bs_list (l : List UInt8) : (bs l).data.toList = l := by unfold bs; simp
def RrOK (w : World) (g : Nat) (o : Option (List UInt8)) : Prop := ∃ s b, w.heap[g]? = some (.cells #[.string s, .bool b] 53 (0, 0)) /\ s.size <= 4000000 /\ (∀ l, o = some l -> b = true /\ s.data.toList = l) /\ (o = none -> b = false)
theorem RrOK.lt {w : World} {g : Nat} {o : Option (List UInt8)} (h : RrOK w g o) : g < w.heap.size := by
 obtain ⟨s, b, h, _⟩ := h
 exact (Array.getElem?_eq_some_iff.1 h).1
theorem RrOK.below {w w' : World} {g : Nat} {o : Option (List UInt8)} (h : RrOK w g o) (hb : Below w.heap.size w w') : RrOK w' g o := by
 have hl := h.lt
 obtain ⟨s, b, h, rest⟩ := h
 exact ⟨s, b, (hb.block g hl).trans h, rest⟩
theorem RrOK.only {w w' : World} {g : Nat} {o : Option (List UInt8)} (h : RrOK w g o) {S : Nat -> Prop} (hb : Only S w w') (hS : ¬ S g) : RrOK w' g o := by
 have hl := h.lt
 obtain ⟨s, b, h, rest⟩ := h
 exact ⟨s, b, (hb.block g hl hS).trans h, rest⟩
theorem RrOK.drew {w : World} {g : Nat} {o : Option (List UInt8)} (h : RrOK w g o) : RrOK w.drew g o := by
 obtain ⟨s, b, h, rest⟩ := h
 exact ⟨s, b, h, rest⟩
end Go.Proofs.Ytjcajeilhcjneaa.Po
/- Rows of numbers and of postings, as what is there to be read; and what the document's rising answers. -/
namespace Go.Proofs.Ytjcajeilhcjneaa.Po
open Go.RowKit
def SlI (w : World) (v : Value) (L : List Int) : Prop := ∃ ao c, v = .slice ao L.length c /\ L.length <= c /\ ∀ j (hj : j < L.length), ∃ g off, ao = some ⟨g, off, none⟩ /\ g < w.heap.size /\ w.cell? ⟨g, off + j, none⟩ = some (.int .i64 L[j])
theorem SlI.below {w w' : World} {v : Value} {L : List Int} (h : SlI w v L) (hb : Below w.heap.size w w') : SlI w' v L := by
 obtain ⟨ao, c, hv, hl, hc⟩ := h
 refine ⟨ao, c, hv, hl, fun j hj => ?_⟩
 obtain ⟨g, off, e, hg, h1⟩ := hc j hj
 exact ⟨g, off, e, Nat.lt_of_lt_of_le hg hb.size, (hb.cell (p := ⟨g, _, none⟩) hg).trans h1⟩
def SlP (w : World) (v : Value) (L : List Pg) : Prop := ∃ ao c, v = .slice ao L.length c /\ L.length <= c /\ ∀ j (hj : j < L.length), ∃ g off ve, ao = some ⟨g, off, none⟩ /\ g < w.heap.size /\ w.cell? ⟨g, off + j * 2, none⟩ = some (.int .i64 L[j].doc) /\ w.cell? ⟨g, off + j * 2 + 1, none⟩ = some ve /\ SlI w ve L[j].pos
theorem SlP.below {w w' : World} {v : Value} {L : List Pg} (h : SlP w v L) (hb : Below w.heap.size w w') : SlP w' v L := by
 obtain ⟨ao, c, hv, hl, hc⟩ := h
 refine ⟨ao, c, hv, hl, fun j hj => ?_⟩
 obtain ⟨g, off, ve, e, hg, h1, h2, h3⟩ := hc j hj
 exact ⟨g, off, ve, e, Nat.lt_of_lt_of_le hg hb.size, (hb.cell (p := ⟨g, _, none⟩) hg).trans h1, (hb.cell (p := ⟨g, _, none⟩) hg).trans h2, h3.below hb⟩
theorem rise_step {l : List Int} {b : Int} {i : Nat} (h : Rise (l.take i) b) (hi : i < l.length) (h0 : 0 <= l[i]) (h1 : l[i] < b) (h2 : ∀ hp : 0 < i, l[i - 1] < l[i]) : Rise (l.take (i + 1)) b := by
 rw [List.take_succ_eq_append_getElem hi]
 refine ⟨fun x hx => ?_, List.pairwise_append.2 ⟨h.2, List.pairwise_singleton .., fun x hx y hy => ?_⟩⟩
 ·rcases List.mem_append.1 hx with hx | hx
  ·exact h.1 x hx
  ·rw [List.mem_singleton.1 hx]; exact ⟨h0, h1⟩
 ·rw [List.mem_singleton.1 hy]
  obtain ⟨k, hk, rfl⟩ := List.mem_iff_getElem.1 hx
  rw [List.length_take] at hk
  rw [List.getElem_take]
  have hp := h2 (by omega)
  by_cases e : k = i - 1
  ·subst e; exact hp
  ·have := List.pairwise_iff_getElem.1 h.2 k (i - 1) (by rw [List.length_take]; omega) (by rw [List.length_take]; omega) (by omega)
   rw [List.getElem_take, List.getElem_take] at this
   omega
theorem rise_not {l : List Int} {b : Int} {i : Nat} (hi : i < l.length) (h : l[i] < 0 \/ b <= l[i] \/ ∃ hp : 0 < i, l[i] <= l[i - 1]) : ¬ Rise l b := by
 rintro ⟨h1, h2⟩
 have := h1 l[i] (List.getElem_mem hi)
 rcases h with h | h | ⟨hp, h⟩
 ·omega
 ·omega
 ·have := List.pairwise_iff_getElem.1 h2 (i - 1) i (by omega) hi (by omega)
  omega
end Go.Proofs.Ytjcajeilhcjneaa.Po
/- What the document's Right of postings answers. -/
namespace Go.Proofs.Ytjcajeilhcjneaa.Po
open Go.RowKit
theorem cell_atP {w : World} {p : Nat} {cs : Array Value} {e : TypeId} {fz : Nat × Nat} (h : w.heap[p]? = some (.cells cs e fz)) (i : Nat) : w.cell? ⟨p, i, none⟩ = cs[i]? := by
 simp [World.cell?, h]
theorem heap_newP (w : World) (o : Obj) : (w.alloc o).heap[w.heap.size]? = some o := heap_alloc_new w o
theorem add_atP (b off j : Nat) : (⟨b, off, none⟩ : Addr).add j = ⟨b, off + j, none⟩ := by unfold Addr.add; split <;> simp_all
def OwnI (B : Nat) (w : World) (v : Value) (L : List Int) : Prop := w.ownsRow B 3 1 v L.length (L.map fun x => .int .i64 x)
theorem infoI : (Try.prog.info? 3).map (fun i => (i.zero, i.size, i.bytes)) = some (some (.int .i64 0), 1, 8) := by kernel_rfl
theorem own_belowP {B : Nat} {e : TypeId} {k : Nat} {v : Value} {n : Nat} {xs : List Value} {w w' : World} (h : w.ownsRow B e k v n xs) (hb : Below w.heap.size w w') : w'.ownsRow B e k v n xs := by
 refine ⟨h.1, ?_⟩
 rcases h.2 with hn | ⟨g, cap, cur, rfl, hbg, hg, rest⟩
 ·exact .inl hn
 ·exact .inr ⟨g, cap, cur, rfl, hbg, by rw [hb.block g (Array.getElem?_eq_some_iff.1 hg).1]; exact hg, rest⟩
theorem OwnI.below {B : Nat} {w w' : World} {v : Value} {L : List Int} (h : OwnI B w v L) (hb : Below w.heap.size w w') : OwnI B w' v L := own_belowP h hb
theorem own_low {B : Nat} {e : TypeId} {k : Nat} {w : World} {v : Value} {n : Nat} {xs : List Value} (h : w.ownsRow B e k v n xs) {q : Nat} (hq : v.ownBlock = some q) : B <= q := by
 rcases h.2 with ⟨rfl, _⟩ | ⟨g, cap, cur, rfl, hbg, _⟩
 ·cases hq
 ·have : g = q := by injection hq
  omega
theorem OwnI.sl {B : Nat} {w : World} {v : Value} {L : List Int} (h : OwnI B w v L) : SlI w v L := by
 have hO := h
 rcases h.2 with ⟨hv, hn⟩ | ⟨g, cap, cur, rfl, hbg, hg, hc, _⟩
 ·exact ⟨none, 0, by rw [hv, hn], by omega, fun j hj => absurd hj (by omega)⟩
 ·refine ⟨_, cap, rfl, hc, fun j hj => ⟨g, 0, rfl, (Array.getElem?_eq_some_iff.1 hg).1, ?_⟩⟩
  rw [Nat.zero_add, World.ownsRow.cellAt hO j (by omega)]
  simp [hj]
theorem one_cellI {w : World} {t : TypeId} {x : Int} {g : Nat} (hg : w.heap.size = g) : ∀ (j : Nat) (u : Value), [Value.int .i64 x][j]? = some u -> (w.alloc (.cells #[.int .i64 x] t)).cell? ((⟨g, 0, none⟩ : Addr).add j) = some u := by
 subst hg
 intro j u hu
 rw [add_atP, Nat.zero_add, cell_atP (heap_newP ..)]
 rw [<- hu]; simp
theorem one_oneI {x : Int} : ∀ u ∈ [Value.int .i64 x], u.oneCell' = true := by
 intro u hu
 simp only [List.mem_cons, List.not_mem_nil, or_false] at hu
 subst hu; rfl
end Go.Proofs.Ytjcajeilhcjneaa.Po
/- Chapter 2's examples: the statements' own helper 'shown' answers true, and changes nothing that was there. -/
namespace Go.Proofs.Ytjcajeilhcjneaa.Fr
open Go.RowKit
section
variable (W : World)
end
end Go.Proofs.Ytjcajeilhcjneaa.Fr
/- WireNumbers answers true for every three numbers and every text, and changes nothing that was there: the walk. -/
namespace Go.Proofs.Ytjcajeilhcjneaa.Fr
open Go.RowKit
theorem bs_cat (l m : List UInt8) : bs l ++ bs m = bs (l ++ m) := by
 apply ByteArray.ext
 rw [ByteArray.data_append]
 unfold bs
 simp
end Go.Proofs.Ytjcajeilhcjneaa.Fr
/- What the program's Right of postings answers. -/
set_option maxRecDepth 100000
namespace Go.Proofs.Ytjcajeilhcjneaa.Po
open Go.RowKit
def aheadI (L : List Int) (i : Nat) : Int := (L.take i).getLast?.getD (-1)
theorem ahead_zero (L : List Int) : aheadI L 0 = -1 := rfl
theorem ahead_succ {L : List Int} {i : Nat} (h : i < L.length) : aheadI L (i + 1) = L[i] := by
 unfold aheadI
 rw [List.take_succ_eq_append_getElem h, List.getLast?_concat]
 rfl
theorem ahead_pos {L : List Int} {i : Nat} (h : i < L.length) (hp : 0 < i) : aheadI L i = L[i - 1] := by
 have := ahead_succ (L := L) (i := i - 1) (by omega)
 rwa [show i - 1 + 1 = i by omega] at this
theorem ahead_rise {L : List Int} {b : Int} {i : Nat} (h : Rise (L.take i) b) : -1 <= aheadI L i /\ aheadI L i < max b 0 := by
 unfold aheadI
 cases e : (L.take i).getLast? with
 | none => simp; omega
 | some x =>
  have := h.1 x (List.mem_of_getLast? e)
  simp
  omega
theorem rise_next {L : List Int} {b : Int} {i : Nat} (h : Rise (L.take i) b) (hi : i < L.length) (h1 : L[i] < b) (h2 : aheadI L i < L[i]) : Rise (L.take (i + 1)) b :=
 rise_step h hi (by have := (ahead_rise h).1; omega) h1 fun hp => by rw [<- ahead_pos hi hp]; exact h2
theorem rise_stop {L : List Int} {b : Int} {i : Nat} (hi : i < L.length) (h : L[i] <= aheadI L i \/ b <= L[i]) : ¬ Rise L b := by
 rcases h with h | h
 ·by_cases hp : 0 < i
  ·exact rise_not hi (.inr (.inr ⟨hp, by rw [<- ahead_pos hi hp]; exact h⟩))
  ·obtain rfl : i = 0 := by omega
   rw [ahead_zero] at h
   exact rise_not hi (.inl (by omega))
 ·exact rise_not hi (.inr (.inl h))
set_option maxHeartbeats 4000000 in
theorem pplaces_any (L : List Int) (v : Value) (w : World) (h : SlI w v L) (hn : L.length <= maxLen) : Calls Try.prog 24 #[v] w fun e w' => e = .returned (.bool (decide (Rise L 2000))) /\ Below w.heap.size w w' := by
 obtain ⟨ao, c, rfl, _, hc⟩ := h
 have HC := Lib.hid hc
 obtain ⟨n, hl⟩ : ∃ n, L.length = n := ⟨_, rfl⟩
 have HN := Lib.hid hl
 have hnm : n <= 9223372036854775807 := by rw [<- hl]; unfold maxLen at hn; exact hn
 obtain ⟨q, hq⟩ : ∃ q, decide (Rise L 2000) = q := ⟨_, rfl⟩
 have HQ := Lib.hid hq
 rw [hl, hq]
 clear hl hc hn hq
 go_enter Try.func24, Try.ntmps24
 go_wp2_with fail
 go_loopw [3, 8] (fun lv iv wr => ∃ i : Nat, i <= n /\ iv = .int .i64 (i : Int) /\ lv = .int .i64 (aheadI L i) /\ Hid (Below w.heap.size w wr) /\ Hid (Rise (L.take i) 2000)) (fun _ iv _ => n - (intOf iv).toNat)
 case atStart => exact ⟨0, Nat.zero_le _, rfl, rfl, Below.refl _ _, ⟨by simp, by simp⟩⟩
 case round =>
  obtain ⟨i, hi, rfl, rfl, HB, HR⟩ := hrel
  by_cases hlt : i < n
  ·have hiz : (i : Int) < (n : Int) := by omega
   have hiL : i < L.length := by rw [HN.out]; exact hlt
   obtain ⟨g, off, rfl, hg, h1⟩ := HC.out i hiL
   have x1 := (HB.out.cell (p := ⟨g, _, none⟩) hg).trans h1
   have HNo : Hid (L[i] <= aheadI L i \/ 2000 <= L[i] -> q = false) := fun h => by
    rw [<- HQ.out]; exact decide_eq_false (rise_stop hiL h)
   have HYes : Hid (L[i] < 2000 -> aheadI L i < L[i] -> Rise (L.take (i + 1)) 2000) := fun h1 h2 => rise_next HR.out hiL h1 h2
   have HA : Hid (aheadI L (i + 1) = L[i]) := ahead_succ hiL
   clear h1 hg
   generalize L[i] = x at *
   generalize aheadI L i = y at *
   have h3 : 0 <= (i : Int) := by omega
   have h4 : (i : Int).toNat = i := rfl
   by_cases z0 : x <= y
   ·have b0 : decide (x <= y) = true := decide_eq_true z0
    have HF := Lib.hid (HNo.out (.inl z0))
    go_wp2_with fail
    go_ret
    exact ⟨congrArg (fun b => Ending.returned (.bool b)) HF.out.symm, HB.out⟩
   ·have b0 : decide (x <= y) = false := decide_eq_false z0
    by_cases z1 : 2000 <= x
    ·have b1 : decide (2000 <= x) = true := decide_eq_true z1
     have HF := Lib.hid (HNo.out (.inr z1))
     go_wp2_with fail
     go_ret
     exact ⟨congrArg (fun b => Ending.returned (.bool b)) HF.out.symm, HB.out⟩
    ·have b1 : decide (2000 <= x) = false := decide_eq_false z1
     have HF := Lib.hid (HYes.out (by omega) (by omega))
     go_wp2_with fail
     go_roundw
     case rel => exact ⟨i + 1, by omega, by go_num, by rw [HA.out], HB.out, HF.out⟩
     case measure => simp [intOf]; omega
  ·obtain rfl : i = n := by omega
   have hiz : ¬ (i : Int) < (i : Int) := by omega
   have HF : Hid (q = true) := by
    have := HR.out
    rw [List.take_of_length_le (by rw [HN.out]; exact Nat.le_refl _)] at this
    show _ = _
    rw [<- HQ.out]; exact decide_eq_true this
   go_wp2_with fail
   go_ret
   exact ⟨congrArg (fun b => Ending.returned (.bool b)) HF.out.symm, HB.out⟩
set_option maxHeartbeats 4000000 in
theorem pright_any (L : List Pg) (v : Value) (w : World) (h : SlP w v L) (hn : L.length <= maxLen) (hp : ∀ p ∈ L, p.pos.length <= maxLen) : Calls Try.prog 13 #[v] w fun e w' => e = .returned (.bool (decide (RightG L))) /\ Below w.heap.size w w' := by
 obtain ⟨ao, c, rfl, _, hc⟩ := h
 have HC := Lib.hid hc
 have HPL := Lib.hid hp
 obtain ⟨n, hl⟩ : ∃ n, L.length = n := ⟨_, rfl⟩
 have HN := Lib.hid hl
 have hnm : n <= 9223372036854775807 := by rw [<- hl]; unfold maxLen at hn; exact hn
 obtain ⟨q, hq⟩ : ∃ q, decide (RightG L) = q := ⟨_, rfl⟩
 have HQ := Lib.hid hq
 rw [hl, hq]
 clear hl hc hp hq hn
 go_enter Try.func13, Try.ntmps13
 go_wp2_with fail
 go_loopw [3, 8] (fun lv iv wr => ∃ i : Nat, i <= n /\ iv = .int .i64 (i : Int) /\ lv = .int .i64 (aheadI (L.map Pg.doc) i) /\ Hid (Below w.heap.size w wr) /\ Hid (Rise ((L.map Pg.doc).take i) 500) /\ Hid (∀ p ∈ L.take i, Rise p.pos 2000 /\ p.pos ≠ [])) (fun _ iv _ => n - (intOf iv).toNat)
 case atStart => exact ⟨0, Nat.zero_le _, rfl, rfl, Below.refl _ _, ⟨by simp, by simp⟩, fun p hp => by simp at hp⟩
 case round =>
  obtain ⟨i, hi1, rfl, rfl, HB, HO, HG⟩ := hrel
  by_cases hlt : i < n
  ·have hiz : (i : Int) < (n : Int) := by omega
   have hiL : i < L.length := by rw [HN.out]; exact hlt
   have hiM : i < (L.map Pg.doc).length := by rw [List.length_map]; exact hiL
   obtain ⟨g, off, ve, rfl, hg, h1, h2, h3'⟩ := HC.out i hiL
   have x1 := (HB.out.cell (p := ⟨g, _, none⟩) hg).trans h1
   have x2 := (HB.out.cell (p := ⟨g, _, none⟩) hg).trans h2
   have hgr : g < wr.heap.size := Nat.lt_of_lt_of_le hg HB.out.size
   have HS := Lib.hid h3'
   have hdoc : (L.map Pg.doc)[i] = L[i].doc := List.getElem_map ..
   have HNo : Hid (L[i].doc <= aheadI (L.map Pg.doc) i \/ 500 <= L[i].doc \/ ¬ (Rise L[i].pos 2000 /\ L[i].pos ≠ []) -> q = false) := fun h => by
    rw [<- HQ.out]
    refine decide_eq_false fun hr => ?_
    rcases h with h | h | h
    ·exact rise_stop hiM (.inl (by rw [hdoc]; exact h)) hr.2
    ·exact rise_stop hiM (.inr (by rw [hdoc]; exact h)) hr.2
    ·exact h (hr.1 L[i] (List.getElem_mem hiL))
   have HYes : Hid (Rise L[i].pos 2000 -> L[i].pos ≠ [] -> ∀ p ∈ L.take (i + 1), Rise p.pos 2000 /\ p.pos ≠ []) := fun h h' p hp => by
    rw [List.take_succ_eq_append_getElem hiL] at hp
    rcases List.mem_append.1 hp with hp | hp
    ·exact HG.out p hp
    ·rw [List.mem_singleton.1 hp]; exact ⟨h, h'⟩
   have HYes1 : Hid (L[i].doc < 500 -> aheadI (L.map Pg.doc) i < L[i].doc -> Rise ((L.map Pg.doc).take (i + 1)) 500) := fun h1 h2 => rise_next HO.out hiM (by rw [hdoc]; exact h1) (by rw [hdoc]; exact h2)
   have HA : Hid (aheadI (L.map Pg.doc) (i + 1) = L[i].doc) := by show _ = _; rw [ahead_succ hiM, hdoc]
   have hpl := HPL.out L[i] (List.getElem_mem hiL)
   have CR := Lib.hid (fun W (hW : Below w.heap.size w W) => pplaces_any L[i].pos ve W (HS.out.below hW) hpl)
   obtain ⟨m, hm⟩ : ∃ m, L[i].pos.length = m := ⟨_, rfl⟩
   have HVe : Hid (∃ ao' c', ve = .slice ao' m c') := by
    obtain ⟨ao', c', hv', _⟩ := h3'
    rw [hm] at hv'
    exact ⟨ao', c', hv'⟩
   obtain ⟨b, hb⟩ : ∃ b, decide (Rise L[i].pos 2000) = b := ⟨_, rfl⟩
   rw [hb] at CR
   have HBt : Hid (b = true -> Rise L[i].pos 2000) := fun h => of_decide_eq_true (hb.trans h)
   have HBf : Hid (b = false -> ¬ Rise L[i].pos 2000) := fun h => of_decide_eq_false (hb.trans h)
   have HM : Hid (m = 0 ↔ L[i].pos = []) := by rw [<- hm]; exact List.length_eq_zero_iff
   clear h1 h2 h3' hm hpl HS hb hdoc hg hiM
   generalize L[i].doc = d at *
   generalize aheadI (L.map Pg.doc) i = y at *
   obtain ⟨ao', c', rfl⟩ := HVe.out
   have h3 : 0 <= (i : Int) := by omega
   have h4 : (i : Int).toNat = i := rfl
   by_cases z0 : d <= y
   ·have b0 : decide (d <= y) = true := decide_eq_true z0
    have HF := Lib.hid (HNo.out (.inl z0))
    go_wp2_with fail
    go_ret
    exact ⟨congrArg (fun b => Ending.returned (.bool b)) HF.out.symm, HB.out.alloc HB.out.size _⟩
   ·have b0 : decide (d <= y) = false := decide_eq_false z0
    by_cases z1 : 500 <= d
    ·have b1 : decide (500 <= d) = true := decide_eq_true z1
     have HF := Lib.hid (HNo.out (.inr (.inl z1)))
     go_wp2_with fail
     go_ret
     exact ⟨congrArg (fun b => Ending.returned (.bool b)) HF.out.symm, HB.out.alloc HB.out.size _⟩
    ·have b1 : decide (500 <= d) = false := decide_eq_false z1
     by_cases z2 : m = 0
     ·have HF := Lib.hid (HNo.out (.inr (.inr fun h => h.2 (HM.out.1 z2))))
      subst z2
      go_wp2_with fail
      go_ret
      exact ⟨congrArg (fun b => Ending.returned (.bool b)) HF.out.symm, HB.out.alloc HB.out.size _⟩
     ·have hmz : ((m : Int) == 0) = false := beq_eq_false_iff_ne.2 (by omega)
      have hmz2 : (m == 0) = false := beq_eq_false_iff_ne.2 (by omega)
      have HB1 := Lib.hid (HB.out.alloc HB.out.size (.cells #[.int .i64 d, .slice ao' m c'] 37))
      have CR1 := Lib.hid (CR.out _ HB1.out)
      clear CR
      go_wp2_with fail
      refine CR1.out.mono ?_
      rintro e w5 ⟨rfl, hb5⟩
      have HB5 := Lib.hid (HB1.out.trans (hb5.mono HB1.out.size))
      have y0 : w5.cell? ⟨wr.heap.size, 0, none⟩ = some (.int .i64 d) := by
       rw [hb5.cell (p := ⟨wr.heap.size, 0, none⟩) (by simp), cell_atP (heap_newP ..)]; rfl
      clear hb5 CR1
      cases b with
      | false =>
       have HF := Lib.hid (HNo.out (.inr (.inr fun h => HBf.out rfl h.1)))
       go_wp2_with fail
       go_ret
       exact ⟨congrArg (fun b => Ending.returned (.bool b)) HF.out.symm, HB5.out⟩
      | true =>
       have HF := Lib.hid (HYes.out (HBt.out rfl) (fun h => z2 (HM.out.2 h)))
       have HF1 := Lib.hid (HYes1.out (by omega) (by omega))
       go_wp2_with fail
       go_roundw
       case rel => exact ⟨i + 1, by omega, by go_num, by rw [HA.out], HB5.out, HF1.out, HF.out⟩
       case measure => simp [intOf]; omega
  ·obtain rfl : i = n := by omega
   have hiz : ¬ (i : Int) < (i : Int) := by omega
   have HE : Hid (q = true) := by
    have hg := HG.out
    have ho := HO.out
    rw [List.take_of_length_le (by rw [HN.out]; exact Nat.le_refl _)] at hg
    rw [List.take_of_length_le (by rw [List.length_map, HN.out]; exact Nat.le_refl _)] at ho
    show _ = _
    rw [<- HQ.out]
    exact decide_eq_true ⟨hg, ho⟩
   go_wp2_with fail
   go_ret
   exact ⟨congrArg (fun b => Ending.returned (.bool b)) HE.out.symm, HB.out⟩
end Go.Proofs.Ytjcajeilhcjneaa.Po

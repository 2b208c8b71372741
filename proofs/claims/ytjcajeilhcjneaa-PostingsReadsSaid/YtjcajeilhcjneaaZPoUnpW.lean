/- What the document's Unpack of postings answers. -/
import Derived.Test.YtjcajeilhcjneaaZPoOne
import Derived.Deep.DeepCutAuto
import Derived.Deep.CutBlock

set_option maxRecDepth 100000
namespace Go.Proofs.Ytjcajeilhcjneaa.Po
open Go.RowKit
open Fr (varL bs)
theorem RrOK.okCell {w : World} {g : Nat} {o : Option (List UInt8)} (h : RrOK w g o) : w.cell? ⟨g, 1, none⟩ = some (.bool o.isSome) /\ w.frozen? ⟨g, 1, none⟩ = false := by
 obtain ⟨s, b, hg, _, h1, h2⟩ := h
 refine ⟨?_, free_at hg 1⟩
 rw [cell_atP hg 1]
 cases o with
 | none => rw [h2 rfl]; rfl
 | some l => rw [(h1 l rfl).1]; rfl
theorem grown_only {W W' : World} {o : Obj} {row : Option Nat} {S : Nat -> Prop} (h : (W.alloc o).grownBy W' row) (hS : ∀ q, row = some q -> S q) : Only S W W' := by
 have hsz : (W.alloc o).heap.size = W.heap.size + 1 := World.size_alloc _ _
 have h1 := h.size
 refine ⟨h.os, h.tape, h.output, by omega, fun k hk hn => ?_⟩
 rw [h.block k (by omega) (fun e => hn (hS k e.symm))]
 exact (Only.refl (fun _ => False) W).alloc o |>.block k hk (fun h => h)
theorem own_apart {w : World} {B B' : Nat} {e e' : TypeId} {k k' : Nat} {v v' : Value} {n n' : Nat} {xs xs' : List Value} (h : w.ownsRow B e k v n xs) (h' : w.ownsRow B' e' k' v' n' xs') (hne : e ≠ e') : v = .slice none 0 0 \/ v.ownBlock ≠ v'.ownBlock := by
 rcases h.2 with ⟨hv, _⟩ | ⟨g, cap, cur, rfl, _, hg, _⟩
 ·exact .inl hv
 ·right
  rcases h'.2 with ⟨rfl, _⟩ | ⟨g', cap', cur', rfl, _, hg', _⟩
  ·intro e; cases e
  ·intro e
   have : g = g' := by injection e
   subst this
   rw [hg] at hg'
   injection hg' with hg'
   injection hg' with _ h2 _
   exact hne h2
theorem two_cellP {w : World} {t : TypeId} {x y : Value} {g : Nat} (hg : w.heap.size = g) : ∀ (j : Nat) (u : Value), [x, y][j]? = some u -> (w.alloc (.cells #[x, y] t)).cell? ((⟨g, 0, none⟩ : Addr).add j) = some u := by
 subst hg
 intro j u hu
 rw [add_atP, Nat.zero_add, cell_atP (heap_newP ..)]
 rw [<- hu]; simp
theorem own_kept {w w' : World} {B : Nat} {e : TypeId} {k : Nat} {v : Value} {n : Nat} {xs : List Value} {S : Nat -> Prop} (h : w.ownsRow B e k v n xs) (hb : Only S w w') (hne : ∀ q, v.ownBlock = some q -> ¬ S q) : w'.ownsRow B e k v n xs := by
 refine ⟨h.1, ?_⟩
 rcases h.2 with hn | ⟨g, cap, cur, rfl, hbg, hg, rest⟩
 ·exact .inl hn
 ·exact .inr ⟨g, cap, cur, rfl, hbg, by rw [hb.block g (Array.getElem?_eq_some_iff.1 hg).1 (hne g rfl)]; exact hg, rest⟩
theorem own_mono {w : World} {B B' : Nat} {e : TypeId} {k : Nat} {v : Value} {n : Nat} {xs : List Value} (h : w.ownsRow B e k v n xs) (hb : B' <= B) : w.ownsRow B' e k v n xs := ⟨h.1, by
 rcases h.2 with hn | ⟨g, cap, cur, rfl, hbg, rest⟩
 ·exact .inl hn
 ·exact .inr ⟨g, cap, cur, rfl, by omega, rest⟩⟩
theorem own_succ {w : World} {B : Nat} {e : TypeId} {k : Nat} {v : Value} {n : Nat} {xs : List Value} (h : w.ownsRow B e k v (n + 1) xs) : ∃ g cap, v = .slice (some ⟨g, 0, none⟩) (n + 1) cap := by
 rcases h.2 with ⟨_, h0⟩ | ⟨g, cap, _, rfl, _⟩
 ·omega
 ·exact ⟨g, cap, rfl⟩
theorem own_one {w : World} {B : Nat} {e : TypeId} {k : Nat} {v : Value} {n : Nat} {xs : List Value} (h : w.ownsRow B e k v n xs) : v.oneCell' = true := by
 rcases h.2 with ⟨rfl, _⟩ | ⟨g, cap, cur, rfl, _⟩ <;> rfl
set_option maxHeartbeats 16000000 in
theorem xunpack_any (s : ByteArray) (w : World) (hs : s.size <= 4000000) :
  Calls Try.prog 16 #[.string s] w fun e w' => (match unpP s.data.toList with
   | some L => ∃ v, e = .returned (.tuple #[v, .int .i64 0]) /\ SlP w' v L
   | none => e = .returned (.tuple #[.slice none 0 0, .int .i64 7])) /\ Below w.heap.size w w' := by
 obtain ⟨i0, hi, hz0, hz1, hz2⟩ := info_parts infoI
 have HZ2 := Lib.hid hz2; clear hz2
 obtain ⟨i1, hj, hy0, hy1, hy2⟩ := info_parts infoPo
 have HY2 := Lib.hid hy2; clear hy2
 obtain ⟨P, hP⟩ : ∃ P : Ending -> World -> Prop, (fun e w' => (match unpP s.data.toList with
   | some L => ∃ v, e = .returned (.tuple #[v, .int .i64 0]) /\ SlP w' v L
   | none => e = .returned (.tuple #[.slice none 0 0, .int .i64 7])) /\ Below w.heap.size w w') = P := ⟨_, rfl⟩
 have HPy : Hid (∀ (M : List Pg) v w', unpP s.data.toList = some M -> SlP w' v M -> Below w.heap.size w w' -> P (.returned (.tuple #[v, .int .i64 0])) w') := fun M v w' h1 h2 h3 => by
  rw [<- hP]
  show (match unpP s.data.toList with | some L => _ | none => _) /\ _
  rw [h1]
  exact ⟨⟨v, rfl, h2⟩, h3⟩
 have HPn : Hid (∀ w', unpP s.data.toList = none -> Below w.heap.size w w' -> P (.returned (.tuple #[.slice none 0 0, .int .i64 7])) w') := fun w' h1 h3 => by
  rw [<- hP]
  show (match unpP s.data.toList with | some L => _ | none => _) /\ _
  rw [h1]
  exact ⟨rfl, h3⟩
 rw [hP]
 clear hP
 obtain ⟨B, hB⟩ : ∃ B, w.heap.size = B := ⟨_, rfl⟩
 obtain ⟨W0, hW0⟩ : ∃ W0, w.alloc (.cells #[.string s, .bool true] 53) = W0 := ⟨_, rfl⟩
 have hR0 : RrOK W0 B (some s.data.toList) := ⟨s, true, by rw [<- hW0, <- hB]; exact heap_newP w _, hs, (fun l h => by cases h; exact ⟨rfl, rfl⟩), (fun h => by cases h)⟩
 have hs0 : W0.heap.size = B + 1 := by rw [<- hW0, <- hB, World.size_alloc]
 have HO0 : Hid (Only (fun k => B <= k) w W0) := by rw [<- hW0]; exact (Only.refl _ w).alloc _
 have HEnd : Hid (∀ W, Only (fun k => B <= k) w W -> Below w.heap.size w W) := fun W hW => hW.below (Nat.le_refl _) (fun k _ h => by rw [hB]; exact h)
 have C500 := Lib.hid (fun o W (h : RrOK W B o) => rnum_any 500 (by omega) o B W h)
 have C2000 := Lib.hid (fun o W (h : RrOK W B o) => rnum_any 2000 (by omega) o B W h)
 have CBig := Lib.hid (fun o W (h : RrOK W B o) => rnum_any 1073741824 (by omega) o B W h)
 have HR0 := Lib.hid hR0
 have HW0 := Lib.hid hW0
 have HS0 := Lib.hid hs0
 clear hR0 hW0 hs0
 go_enter Try.func16, Try.ntmps16
 go_wp2_with fail
 rw [HW0.out]
 refine (C500.out _ _ HR0.out).mono ?_
 rintro e w1 ⟨n, rfl, hn5, hnq, hr1, ho1⟩
 have HA1 := Lib.hid (at1_zero (s := s) (hnq (by simp)))
 have HO1 : Hid (Only (fun k => B <= k) w w1) := HO0.out.trans (ho1.out.mono fun i _ h => by rw [h]; exact Nat.le_refl B) (fun i _ h => h)
 have HR1 := Lib.hid hr1.out
 have HB1 : Hid (B + 1 <= w1.heap.size) := by have := ho1.out.size; have := HS0.out; show _ <= _; omega
 generalize (nNum 500 (some s.data.toList)).2 = o1 at *
 clear hr1 ho1 hnq
 have hnz : (n : Int) <= 500 := by omega
 go_upto_block 0 with fail
 go_cut [6] (fun _ wx => ∃ o, Hid (At2 s n 0 [] (-1) o) /\ Hid (RrOK wx B o) /\ Hid (Only (fun k => B <= k) w wx) /\ Hid (B + 1 <= wx.heap.size))
 case first =>
  go_wp2_with fail
  go_loopw [6] (fun iv wr => ∃ (j : Nat) (o : Option (List UInt8)), iv = .int .i64 (8 + 8 * (j : Int)) /\ 8 * j <= n /\ Hid (At1 s n j o) /\ Hid (RrOK wr B o) /\ Hid (Only (fun k => B <= k) w wr) /\ Hid (B + 1 <= wr.heap.size)) (fun iv _ => n + 8 - (intOf iv).toNat)
  case atStart => exact ⟨0, o1, rfl, Nat.zero_le _, HA1.out, HR1.out, HO1.out, HB1.out⟩
  case round =>
   obtain ⟨j, o, rfl, hj, HA, HR, HO, HBs⟩ := hrel
   obtain ⟨x1, x2⟩ := HR.out.okCell
   by_cases hlt : 8 + 8 * j < n
   ·have hiz : 8 + 8 * (j : Int) < (n : Int) := by omega
    cases o with
    | none =>
     have x1 : wr.cell? ⟨B, 1, none⟩ = some (.bool false) := x1
     go_wp2_with fail
     go_meet
     exact ⟨none, at2_zero HA.out (.inl rfl), HR.out, HO.out, HBs.out⟩
    | some l =>
     have x1 : wr.cell? ⟨B, 1, none⟩ = some (.bool true) := x1
     go_wp2_with fail
     refine (C500.out _ _ HR.out).mono ?_
     rintro e w2 ⟨q, rfl, _, _, hr2, ho2⟩
     have HO2 : Hid (Only (fun k => B <= k) w w2) := HO.out.trans (ho2.out.mono fun i _ h => by rw [h]; exact Nat.le_refl B) (fun i _ h => h)
     have HS2 : Hid (B + 1 <= w2.heap.size) := by have := ho2.out.size; have := HBs.out; show _ <= _; omega
     have HR2 := Lib.hid hr2.out
     clear hr2 ho2 x1 x2
     go_wp2_with fail
     refine (CBig.out _ _ HR2.out).mono ?_
     rintro e w3 ⟨q2, rfl, _, _, hr3, ho3⟩
     have HO3 : Hid (Only (fun k => B <= k) w w3) := HO2.out.trans (ho3.out.mono fun i _ h => by rw [h]; exact Nat.le_refl B) (fun i _ h => h)
     have HS3 : Hid (B + 1 <= w3.heap.size) := by have := ho3.out.size; have := HS2.out; show _ <= _; omega
     have HR3 := Lib.hid hr3.out
     clear hr3 ho3
     go_wp2_with fail
     go_roundw
     case rel => exact ⟨j + 1, _, by congr 1, by omega, at1_step HA.out (by omega), HR3.out, HO3.out, HS3.out⟩
     case measure => simp [intOf]; omega
   ·have hiz : ¬ 8 + 8 * (j : Int) < (n : Int) := by omega
    clear x1 x2
    go_wp2_with fail
    go_meet
    exact ⟨o, at2_zero HA.out (.inr (by omega)), HR.out, HO.out, HBs.out⟩
 case rest =>
  obtain ⟨o2, HA2, HR2, HO2, HBs2⟩ := hcut
  clear HA1 HO1 HR1 HB1
  go_upto_block 2 with fail
  go_cut [7] (fun lv wx => ∃ (i : Nat) (M : List Pg) (last : Int) (o : Option (List UInt8)), Hid (At2 s n i M last o /\ (o = none \/ n <= i)) /\ M.length <= n /\ Hid (∀ p ∈ M, p.pos.length <= 2000) /\ Hid (RrOK wx B o) /\ Hid (POwn (B + 1) wx lv M) /\ Hid (Only (fun k => B <= k) w wx) /\ Hid (B + 1 <= wx.heap.size))
  case first =>
   go_wp2_with fail
   go_loopw [7, 8, 9] (fun lv av iv wr => ∃ (i : Nat) (M : List Pg) (last : Int) (o : Option (List UInt8)), iv = .int .i64 (i : Int) /\ i <= n /\ av = .int .i64 last /\ -1 <= last /\ last <= 500 * (i : Int) /\ Hid (At2 s n i M last o) /\ Hid (M.length = i) /\ Hid (∀ p ∈ M, p.pos.length <= 2000) /\ Hid (RrOK wr B o) /\ Hid (POwn (B + 1) wr lv M) /\ Hid (Only (fun k => B <= k) w wr) /\ Hid (B + 1 <= wr.heap.size)) (fun _ _ iv _ => n - (intOf iv).toNat)
   case atStart => exact ⟨0, [], -1, o2, rfl, Nat.zero_le _, rfl, by omega, by omega, HA2.out, rfl, fun p hp => (by cases hp), HR2.out, POwn.nil _ _, HO2.out, HBs2.out⟩
   case round =>
    clear HA2 HO2 HR2 HBs2
    obtain ⟨i, M, last, o, rfl, hin, rfl, hla, hlb, HA, HM, HZ, HR, HP, HO, HBs⟩ := hrel
    obtain ⟨x1, x2⟩ := HR.out.okCell
    by_cases hlt : i < n
    ·have hiz : (i : Int) < (n : Int) := by omega
     cases o with
     | none =>
      have x1 : wr.cell? ⟨B, 1, none⟩ = some (.bool false) := x1
      go_wp2_with fail
      go_meet
      exact ⟨i, M, last, none, ⟨HA.out, .inl rfl⟩, by rw [HM.out]; exact hin, HZ.out, HR.out, HP.out, HO.out, HBs.out⟩
     | some l =>
      have x1 : wr.cell? ⟨B, 1, none⟩ = some (.bool true) := x1
      go_wp2_with fail
      refine (C500.out _ _ HR.out).mono ?_
      rintro e w2 ⟨q, rfl, hq5, hqe, hr2, ho2⟩
      have HO2 : Hid (Only (fun k => B <= k) w w2) := HO.out.trans (ho2.out.mono fun i _ h => by rw [h]; exact Nat.le_refl B) (fun i _ h => h)
      have HS2 : Hid (B + 1 <= w2.heap.size) := by have := ho2.out.size; have := HBs.out; show _ <= _; omega
      have HP2 : Hid (POwn (B + 1) w2 u7 M) := HP.out.only ho2.out (fun q h1 _ h2 => by omega)
      have HQ := Lib.hid hqe
      have HR2 := Lib.hid hr2.out
      have hwd : IntKind.i64.wrap (last + (q : Int)) = last + (q : Int) := IntWalk.i64_in _ (by omega)
      obtain ⟨Pb, hPb⟩ : ∃ Pb, w2.heap.size = Pb := ⟨_, rfl⟩
      obtain ⟨w3, hw3⟩ : ∃ w3, w2.alloc (.cells #[.int .i64 (last + (q : Int)), .slice none 0 0] 37) = w3 := ⟨_, rfl⟩
      have HW3 := Lib.hid hw3
      have hb3 : Below w2.heap.size w2 w3 := by rw [<- hw3]; exact (Below.refl _ w2).alloc (Nat.le_refl _) _
      have HR3 := Lib.hid (HR2.out.below hb3)
      have HPb3 : Hid (w3.heap[Pb]? = some (.cells #[.int .i64 (last + (q : Int)), .slice none 0 0] 37 (0, 0))) := by
       show _ = _
       rw [<- hw3, <- hPb]; exact heap_newP w2 _
      have HK3 : Hid (Only (fun k => k = B \/ Pb <= k) w2 w3) := by rw [<- hw3]; exact (Only.refl _ w2).alloc _
      have HPB := Lib.hid hPb
      clear hr2 ho2 x1 x2 hqe hw3 hb3 hPb
      go_wp2_with fail
      rw [HW3.out, HPB.out]
      refine (C2000.out _ _ HR3.out).mono ?_
      rintro e w4 ⟨many, rfl, hm5, hme, hr4, ho4⟩
      have HA4 := Lib.hid (at3_zero (many := many) HA.out hlt HQ.out (fun h => hme h))
      have HR4 := Lib.hid hr4.out
      have hPl : Pb < w3.heap.size := (Array.getElem?_eq_some_iff.1 HPb3.out).1
      have hBP : B + 1 <= Pb := by have := HS2.out; have := HPB.out; omega
      have HPb4 : Hid (w4.heap[Pb]? = some (.cells #[.int .i64 (last + (q : Int)), .slice none 0 0] 37 (0, 0))) := (ho4.out.block Pb hPl (by omega)).trans HPb3.out
      have HK4 : Hid (Only (fun k => k = B \/ Pb <= k) w2 w4) := HK3.out.trans (ho4.out.mono fun i _ h => .inl h) (fun i _ h => h)
      generalize (nNum 2000 (nNum 500 (some l)).2).2 = o4 at *
      clear hme hr4 ho4 HR3 HPb3 HK3 HQ hPl HA
      obtain ⟨doc, hdoc⟩ : ∃ doc, last + (q : Int) = doc := ⟨_, rfl⟩
      rw [hdoc] at HA4 HPb4 ⊢
      have hdl : -1 <= doc := by omega
      have hdh : doc <= 500 * ((i : Int) + 1) := by omega
      clear hdoc HW3 hwd
      go_upto_block 4 with fail
      go_cut [13] (fun _ wx => ∃ (k : Nat) (a : Int) (Z : List Int) (pv : Value) (o : Option (List UInt8)), Hid (At3 s n i M doc many k a Z o /\ (o = none \/ many <= k)) /\ Hid (Z.length <= 2000) /\ Hid (RrOK wx B o) /\ Hid (wx.heap[Pb]? = some (.cells #[.int .i64 doc, pv] 37 (0, 0))) /\ Hid (OwnI (Pb + 1) wx pv Z) /\ Hid (Only (fun k => k = B \/ Pb <= k) w2 wx))
      case first =>
       go_wp2_with fail
       go_loopw [12, 13] (fun av kv wk => ∃ (k : Nat) (a : Int) (Z : List Int) (pv : Value) (o : Option (List UInt8)), kv = .int .i64 (k : Int) /\ k <= many /\ av = .int .i64 a /\ -1 <= a /\ a <= 2000 * (k : Int) /\ Hid (Z.length = k) /\ Hid (At3 s n i M doc many k a Z o) /\ Hid (RrOK wk B o) /\ Hid (wk.heap[Pb]? = some (.cells #[.int .i64 doc, pv] 37 (0, 0))) /\ Hid (OwnI (Pb + 1) wk pv Z) /\ Hid (Only (fun k => k = B \/ Pb <= k) w2 wk)) (fun _ kv _ => many - (intOf kv).toNat)
       case atStart => exact ⟨0, -1, [], .slice none 0 0, o4, rfl, Nat.zero_le _, rfl, by omega, by omega, rfl, HA4.out, HR4.out, HPb4.out, World.ownsRow_nil _ _ _ _, HK4.out⟩
       case round =>
        clear HA4 HR4 HPb4 HK4
        obtain ⟨k, a, Z, pv, o, rfl, hkm, rfl, ha0, ha1, HZl, HA3, HRk, HPk, HOk, HKk⟩ := hrel
        obtain ⟨x1, x2⟩ := HRk.out.okCell
        by_cases hkl : k < many
        ·have hkz : (k : Int) < (many : Int) := by omega
         cases o with
         | none =>
          have x1 : wr.cell? ⟨B, 1, none⟩ = some (.bool false) := x1
          go_wp2_with fail
          go_meet
          exact ⟨k, a, Z, pv, none, ⟨HA3.out, .inl rfl⟩, by have := HZl.out; show _ <= _; omega, HRk.out, HPk.out, HOk.out, HKk.out⟩
         | some lk =>
          have x1 : wr.cell? ⟨B, 1, none⟩ = some (.bool true) := x1
          go_wp2_with fail
          refine (C2000.out _ _ HRk.out).mono ?_
          rintro e w5 ⟨qk, rfl, hqk, hqke, hr5, ho5⟩
          have HA5 := Lib.hid (at3_step HA3.out hkl hqke)
          have hPl : Pb < wr.heap.size := (Array.getElem?_eq_some_iff.1 HPk.out).1
          have HP5 : Hid (w5.heap[Pb]? = some (.cells #[.int .i64 doc, pv] 37 (0, 0))) := (ho5.out.block Pb hPl (by omega)).trans HPk.out
          have HO5 : Hid (OwnI (Pb + 1) w5 pv Z) := own_only HOk.out ho5.out (fun q h1 _ h2 => by omega)
          have HK5 : Hid (Only (fun k => k = B \/ Pb <= k) w2 w5) := HKk.out.trans (ho5.out.mono fun i _ h => .inl h) (fun i _ h => h)
          have HR5 := Lib.hid hr5.out
          have hwa : IntKind.i64.wrap (a + (qk : Int)) = a + (qk : Int) := IntWalk.i64_in _ (by omega)
          have y1 : w5.cell? ⟨Pb, 1, none⟩ = some pv := cell_atP HP5.out 1
          have hPl5 : Pb < w5.heap.size := (Array.getElem?_eq_some_iff.1 HP5.out).1
          clear hr5 ho5 hqke x1 x2 HA3 HRk HPk HOk HKk hPl
          generalize (nNum 2000 (some lk)).2 = o5 at *
          obtain ⟨a5, ha5⟩ : ∃ a5, a + (qk : Int) = a5 := ⟨_, rfl⟩
          have h5a : -1 <= a5 := by omega
          have h5b : a5 <= 2000 * ((k : Int) + 1) := by omega
          rw [ha5] at hwa HA5
          have HWA := Lib.hid ha5
          go_wp2_with (at_builtin; go_loud (refine wpList_append_own _ rfl _ _ 35 rfl (Pb + 1) 3 i0 _ 1 8 Try.underlying35 hi hz0 hz1 HZ2.out rfl (by decide) _ _ _ rfl (HO5.out.alloc _) _ 1 1 [.int .i64 a5] rfl rfl (one_cellI (by simp)) one_oneI ?c3 ?c4 ?c5 ?_))
          case c3 => have := HZl.out; unfold maxLen; omega
          case c4 => have := HZl.out; omega
          case c5 => simp; omega
          intro v1 w6 hown hgrow _
          obtain ⟨g', cap', rfl⟩ := own_succ hown
          have o6 : Only (fun q => Pb <= q) w5 w6 := grown_only hgrow (fun q hq => by have := own_low HO5.out hq; omega)
          have o6' : Only (fun q => Pb + 1 <= q) w5 w6 := grown_only hgrow (fun q hq => own_low HO5.out hq)
          have HP6 : Hid (w6.heap[Pb]? = some (.cells #[.int .i64 doc, pv] 37 (0, 0))) := (o6'.block Pb hPl5 (by omega)).trans HP5.out
          have z1 : w6.cell? ⟨Pb, 1, none⟩ = some pv := cell_atP HP6.out 1
          have z2 : w6.frozen? ⟨Pb, 1, none⟩ = false := free_at HP6.out 1
          obtain ⟨v1, hv1⟩ : ∃ v1 : Value, v1 = .slice (some ⟨g', 0, none⟩) (Z.length + 1) cap' := ⟨_, rfl⟩
          have o7 : Only (fun q => Pb <= q) w5 (w6.setCell ⟨Pb, 1, none⟩ v1) := o6.setCell (p := ⟨Pb, 1, none⟩) (fun _ => Nat.le_refl _) _
          have HP7 : Hid ((w6.setCell ⟨Pb, 1, none⟩ v1).heap[Pb]? = some (.cells #[.int .i64 doc, v1] 37 (0, 0))) := heap_setCell_at HP6.out _
          have HO7 : Hid (OwnI (Pb + 1) (w6.setCell ⟨Pb, 1, none⟩ v1) v1 (Z ++ [a5])) := by
           show OwnI _ _ _ _
           unfold OwnI
           rw [List.length_append, List.map_append]
           rw [<- hv1] at hown
           exact own_only hown ((Only.refl (fun q => q = Pb) w6).setCell (p := ⟨Pb, 1, none⟩) (fun _ => rfl) _) (fun q h1 _ h2 => by omega)
          have HR7 : Hid (RrOK (w6.setCell ⟨Pb, 1, none⟩ v1) B o5) := HR5.out.only o7 (by omega)
          have HK7 : Hid (Only (fun k => k = B \/ Pb <= k) w2 (w6.setCell ⟨Pb, 1, none⟩ v1)) := HK5.out.trans (o7.mono fun i _ h => .inr h) (fun i _ h => h)
          rw [hv1] at HP7 HO7 HR7 HK7
          clear hown hgrow o6 o6' o7 hv1 y1
          go_wp2_with fail
          go_roundw
          case rel => exact ⟨k + 1, a5, Z ++ [a5], _, o5, by go_num, by omega, by first | rfl | (rw [HWA.out]), h5a, h5b, by have := HZl.out; show _ = _; rw [List.length_append, this]; rfl, HA5.out, HR7.out, HP7.out, HO7.out, HK7.out⟩
          case measure => simp [intOf]; omega
        ·have hkz : ¬ (k : Int) < (many : Int) := by omega
         clear x1 x2
         go_wp2_with fail
         go_meet
         exact ⟨k, a, Z, pv, o, ⟨HA3.out, .inr (by omega)⟩, by have := HZl.out; show _ <= _; omega, HRk.out, HPk.out, HOk.out, HKk.out⟩
      case rest =>
       obtain ⟨k, a, Z, pv, o, HA5, HZ5, HR5, HP5, HO5, HK5⟩ := hcut
       have HA6 := Lib.hid (at2_step HA5.out.1 HA5.out.2)
       have y0 : wc.cell? ⟨Pb, 0, none⟩ = some (.int .i64 doc) := cell_atP HP5.out 0
       have y1 : wc.cell? ⟨Pb, 1, none⟩ = some pv := cell_atP HP5.out 1
       have hPl5 : Pb < wc.heap.size := (Array.getElem?_eq_some_iff.1 HP5.out).1
       have HPw := Lib.hid (HP2.out.only HK5.out (fun q h1 h2 h3 => by have := HPB.out; omega))
       obtain ⟨vs, hvl, hrow, hvs⟩ := HPw.out
       have HVs := Lib.hid hvs
       have HRow := Lib.hid hrow
       have hml := HM.out
       have hlow : ∀ q, u7.ownBlock = some q -> q < Pb := fun q hq => by
        have h2 := HP2.out
        obtain ⟨vs2, _, h2, _⟩ := h2
        have := (h2.lt q hq)
        have := HPB.out
        omega
       have HLow := Lib.hid hlow
       clear hvs hrow hlow HA5 HA4
       go_wp2_with (at_builtin; go_loud (refine wpList_append_own _ rfl _ _ 22 rfl (B + 1) 37 i1 _ 2 32 Try.underlying22 hj hy0 hy1 HY2.out rfl (by decide) _ _ _ rfl (HRow.out.alloc _) _ 1 1 [.int .i64 doc, pv] rfl rfl (two_cellP (by simp)) ?c2 ?c3 ?c4 ?c5 ?_))
       case c2 =>
        intro u hu
        simp only [List.mem_cons, List.not_mem_nil, or_false] at hu
        rcases hu with rfl | rfl
        ·rfl
        ·exact own_one HO5.out
       case c3 => unfold maxLen; omega
       case c4 => omega
       case c5 => simp; omega
       intro v1 w6 hown hgrow _
       obtain ⟨g', cap', rfl⟩ := own_succ hown
       have o6 : Only (fun q => B + 1 <= q) wc w6 := grown_only hgrow (fun q hq => own_low HRow.out hq)
       have o6r : Only (fun q => u7.ownBlock = some q) wc w6 := grown_only hgrow (fun q hq => hq)
       have HP6 : Hid (w6.heap[Pb]? = some (.cells #[.int .i64 doc, pv] 37 (0, 0))) := (o6r.block Pb hPl5 (fun h => by have := HLow.out Pb h; omega)).trans HP5.out
       have z0 : w6.cell? ⟨Pb, 0, none⟩ = some (.int .i64 doc) := cell_atP HP6.out 0
       have HR6 : Hid (RrOK w6 B o) := HR5.out.only o6 (by omega)
       have keepI : ∀ {B' : Nat} {v : Value} {Z : List Int}, OwnI B' wc v Z -> OwnI B' w6 v Z := fun {B' v Z} h => own_kept h o6r fun q hq h2 => by
        rcases own_apart h HRow.out (by decide) with hv | hv
        ·rw [hv] at hq; cases hq
        ·exact hv (hq.trans h2.symm)
       have HPo6 : Hid (POwn (B + 1) w6 (.slice (some ⟨g', 0, none⟩) (i + 1) cap') (M ++ [(⟨doc, Z⟩ : Pg)])) := by
        refine ⟨vs ++ [pv], by rw [List.length_append, List.length_append, hvl]; rfl, ?_, fun j hj => ?_⟩
        ·rw [List.length_append, flatV_snoc M vs _ pv hvl, hml]
         exact hown
        ·rw [List.length_append, List.length_singleton] at hj
         by_cases hjM : j < M.length
         ·rw [List.getElem_append_left (by rw [hvl]; exact hjM), List.getElem_append_left hjM]
          exact keepI (HVs.out j hjM)
         ·obtain rfl : j = M.length := by omega
          have e1 : (vs ++ [pv])[M.length]'(by rw [List.length_append, hvl]; simp) = pv := by rw [List.getElem_append_right (by omega)]; simp
          have e2 : (M ++ [(⟨doc, Z⟩ : Pg)])[M.length]'(by simp) = ⟨doc, Z⟩ := by rw [List.getElem_append_right (Nat.le_refl _)]; simp
          rw [e1, e2]
          exact own_mono (keepI HO5.out) (by omega)
       have HO6 : Hid (Only (fun k => B <= k) w w6) := (HO2.out.trans (HK5.out.mono fun i _ h => by omega) (fun i _ h => h)).trans (o6.mono fun i _ h => by omega) (fun i _ h => h)
       have HBs6 : Hid (B + 1 <= w6.heap.size) := by have := o6.size; show _ <= _; omega
       have HZ6 : Hid (∀ p ∈ M ++ [(⟨doc, Z⟩ : Pg)], p.pos.length <= 2000) := fun p hp => by
        rcases List.mem_append.1 hp with hp | hp
        ·exact HZ.out p hp
        ·rw [List.mem_singleton.1 hp]; exact HZ5.out
       have HM6 : Hid ((M ++ [(⟨doc, Z⟩ : Pg)]).length = i + 1) := by show _ = _; rw [List.length_append, hml]; rfl
       clear hown hgrow o6 o6r keepI y0 y1
       go_wp2_with fail
       go_roundw
       case rel => exact ⟨i + 1, M ++ [(⟨doc, Z⟩ : Pg)], doc, o, by go_num, by omega, rfl, hdl, by omega, HA6.out, HM6.out, HZ6.out, HR6.out, HPo6.out, HO6.out, HBs6.out⟩
       case measure => simp [intOf]; omega
    ·have hiz : ¬ (i : Int) < (n : Int) := by omega
     clear x1 x2
     go_wp2_with fail
     go_meet
     exact ⟨i, M, last, o, ⟨HA.out, .inr (by omega)⟩, by rw [HM.out]; exact hin, HZ.out, HR.out, HP.out, HO.out, HBs.out⟩
  case rest =>
   obtain ⟨i, M, last, o, HA, hMn, HZ, HR, HP, HO, HBs⟩ := hcut
   clear HA2 HO2 HR2 HBs2
   obtain ⟨hE1, hE2⟩ := at_end HA.out.1 HA.out.2
   have HE1 := Lib.hid hE1
   have HE2 := Lib.hid hE2
   have CR := Lib.hid (xright_any M u7 wc HP.out.sl (by omega) (fun p hp => Nat.le_trans (HZ.out p hp) (by unfold maxLen; omega)))
   clear hE1 hE2 HA
   by_cases hRM : RightG M
   ·have CB := Lib.hid (fun W (hW : Below wc.heap.size wc W) => xbytes_any M u7 W (HP.out.sl.below hW) hRM)
    rw [decide_eq_true hRM] at CR
    have HSl := Lib.hid HP.out.sl
    obtain ⟨T, hT⟩ : ∃ T, bs (bytesP M) = T := ⟨_, rfl⟩
    have HT := Lib.hid hT
    rw [hT] at CB
    clear hT
    go_wp2_with fail
    refine CR.out.mono ?_
    rintro e w8 ⟨rfl, hb8⟩
    have HB8 := Lib.hid hb8
    have HR8 := Lib.hid (HR.out.below hb8)
    obtain ⟨x1, x2⟩ := HR8.out.okCell
    have HW8 : Hid (Only (fun k => B <= k) w w8) := HO.out.trans (Only.of_below (fun k => B <= k) hb8 (Nat.le_refl _)) (fun i _ h => h)
    clear hb8
    cases o with
    | none =>
     have x1 : w8.cell? ⟨B, 1, none⟩ = some (.bool false) := x1
     have HN := Lib.hid (HE2.out (fun h => h.1 rfl))
     go_wp2_with fail
     exact HPn.out _ HN.out (HEnd.out _ HW8.out)
    | some l =>
     have x1 : w8.cell? ⟨B, 1, none⟩ = some (.bool true) := x1
     go_wp2_with fail
     refine (CB.out _ HB8.out).mono ?_
     rintro e w9 ⟨rfl, hb9⟩
     have HB9 : Hid (Below wc.heap.size wc w9) := HB8.out.trans (hb9.mono HB8.out.size)
     have HW9 : Hid (Only (fun k => B <= k) w w9) := HO.out.trans (Only.of_below (fun k => B <= k) HB9.out (Nat.le_refl _)) (fun i _ h => h)
     clear hb9 x1 x2
     by_cases hts : bytesP M = s.data.toList
     ·have hTs : T = s := by rw [<- HT.out, hts]; rfl
      have HY := Lib.hid (HE1.out ⟨by simp, hRM, hts⟩)
      have hq0 : (T.toList == s.toList) = true := by rw [hTs]; simp
      clear hts hTs
      go_wp2_with fail
      exact HPy.out M _ _ HY.out (HSl.out.below HB9.out) (HEnd.out _ HW9.out)
     ·have hTs : T ≠ s := fun h => hts (by rw [<- h, <- HT.out]; exact (bs_list _).symm)
      have HN := Lib.hid (HE2.out (fun h => hts h.2.2))
      have hq0 : (T.toList == s.toList) = false := by
       rw [beq_eq_false_iff_ne]
       intro e
       apply hTs
       rw [ByteArray.toList_eq, ByteArray.toList_eq] at e
       apply ByteArray.ext
       exact Array.ext' e
      clear hts hTs
      go_wp2_with fail
      exact HPn.out _ HN.out (HEnd.out _ HW9.out)
   ·rw [decide_eq_false hRM] at CR
    have HN := Lib.hid (HE2.out (fun h => hRM h.2.1))
    go_wp2_with fail
    refine CR.out.mono ?_
    rintro e w8 ⟨rfl, hb8⟩
    have HR8 := Lib.hid (HR.out.below hb8)
    obtain ⟨x1, x2⟩ := HR8.out.okCell
    have HW8 : Hid (Only (fun k => B <= k) w w8) := HO.out.trans (Only.of_below (fun k => B <= k) hb8 (Nat.le_refl _)) (fun i _ h => h)
    clear hb8 hRM
    cases o with
    | none =>
     have x1 : w8.cell? ⟨B, 1, none⟩ = some (.bool false) := x1
     go_wp2_with fail
     exact HPn.out _ HN.out (HEnd.out _ HW8.out)
    | some l =>
     have x1 : w8.cell? ⟨B, 1, none⟩ = some (.bool true) := x1
     go_wp2_with fail
     exact HPn.out _ HN.out (HEnd.out _ HW8.out)
end Go.Proofs.Ytjcajeilhcjneaa.Po

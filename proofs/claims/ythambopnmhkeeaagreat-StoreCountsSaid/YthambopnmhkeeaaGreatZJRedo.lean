/- What redo answers and leaves behind: the log's frames, done at home, in order. -/
import Derived.Test.YthambopnmhkeeaaGreatZJSlot
import Derived.Test.YthambopnmhkeeaaGreatZFUnpR
import Derived.Deep.LoopGhost
import Derived.Test.YthambopnmhkeeaaGreatZLHelp

set_option maxRecDepth 100000
namespace Go.Proofs.YthambopnmhkeeaaGreat
open Go.RowKit
open Fr (SlW SlS WritesAt StrsAt OwnS OwnW nmAt hd unp headB)
section
variable {S : Nat -> Prop} {w w' : World} {a p : Nat} {J : JS} {D : DevS}
theorem unp_len (s : ByteArray) (l : List ByteArray) : (unp (s :: l)).2.1.length <= l.length := by
 rw [Fr.unp_cons]
 split
 ·split
  ·show ((Fr.blocksOf s.data.toList).zip (l.take (nmAt s.data.toList 12))).length <= _
   rw [List.length_zip, List.length_take]; omega
  ·exact Nat.zero_le _
 ·exact Nat.zero_le _
theorem frameOf_some {ws : List (Int × ByteArray)} (h : J.frameOf D = some ws) : 1 <= ws.length /\ ws.length <= 48 /\ ws.length + 1 <= J.left /\ J.chk D.disk.length ws = 0 := by
 unfold JS.frameOf at h
 split at h
 ·rename_i h1
  cases h
  have h2 := (J.chk_ok _ _).1 h1.2.2.2.2
  have h3 := unp_len (D.rdB (J.pos 0)) ((List.range (nmAt (D.rdB (J.pos 0)).data.toList 12)).map fun i => D.rdB (J.pos (i + 1)))
  rw [List.length_map, List.length_range] at h3
  have h4 : (unp (J.frameAt D)).2.1.length <= nmAt (D.rdB (J.pos 0)).data.toList 12 := h3
  exact ⟨h2.1, h2.2.1, by omega, h1.2.2.2.2⟩
 ·cases h
theorem redoN_none (m : Nat) (h : J.frameOf D = none) : J.redoN D (m + 1) = (0, D, J) := by
 show (match J.frameOf D with | none => _ | some ws => _) = _
 rw [h]
theorem redoN_some (m : Nat) {ws : List (Int × ByteArray)} (h : J.frameOf D = some ws) : J.redoN D (m + 1) = if (D.wrs ws).1 ≠ 0 then ((D.wrs ws).1, (D.wrs ws).2, J.grow (ws.length + 1)) else (J.grow (ws.length + 1)).redoN (D.wrs ws).2 m := by
 show (match J.frameOf D with | none => _ | some ws => _) = _
 rw [h]
def RedoI (t : TypeId) (S : Nat -> Prop) (w : World) (a p : Nat) (J : JS) (D : DevS) (m : Nat) (wr : World) : Prop :=
 ∃ (Jk : JS) (Dk : DevS), Jk.redoN Dk m = J.redo D /\ Jk.left < m /\ Jk.Ok D.disk.length /\ Dk.dead = false /\ Dk.disk.length = D.disk.length /\ Dk.pend.length + Jk.left <= D.pend.length + J.log /\ JLeaves t S w wr a p Dk Jk
set_option maxHeartbeats 2000000 in
theorem redo_any (hj : Jr 104 w a p J) (hd : Stands S w p D) (ha : ¬ S a) (ok : J.Ok D.disk.length) (hde : D.dead = false) (hp : D.pend.length <= 700000) :
  Calls Tryz.prog 125 #[.pointer (some ⟨a, 0, none⟩)] w fun e w' => e = .returned (.int .i64 (J.redo D).1) /\ JLeaves 104 S w w' a p (J.redo D).2.1 (J.redo D).2.2 := by
 have hnd := hd.ok.few
 have hll := ok.l1
 have HA := Lib.hid ha; clear ha
 have HI : Hid (RedoI 104 S w a p J D (J.log + 1) w) :=
  ⟨J, D, rfl, by unfold JS.left; omega, ok, hde, rfl, by unfold JS.left; omega, JLeaves.refl hd hj⟩
 have hJl := hj.lt
 clear hj hd ok hde
 go_enter Tryz.func125, Tryz.ntmps125
 go_wp2_with fail
 go_loopg [4] (J.log + 1) (fun m u wr => Hid (RedoI 104 S w a p J D m wr))
 case atStart => exact HI
 case round =>
  clear HI
  obtain ⟨Jk, Dk, he, hm, hok, hde, hdk, hpk, hlv⟩ := hrel.out
  clear hrel
  obtain ⟨m, rfl⟩ : ∃ m, gk = m + 1 := ⟨gk - 1, by omega⟩
  obtain ⟨S1, hS1, hs1, hj1, ho1⟩ := hlv
  have hal : a < w.heap.size := hJl
  have hna : ¬ S1 a := fun h => by rcases hS1 a h with h | h; exact HA.out h; omega
  have hok1 : Jk.Ok Dk.disk.length := by rw [hdk]; exact hok
  have CX := Lib.hid (next_any hj1 hs1 hok1 hde (by omega))
  have hleft : Jk.left <= 4096 := by have := hok.l1; unfold JS.left; omega
  cases hfr : Jk.frameOf Dk with
  | none =>
   have HR : Hid (J.redo D = (0, Dk, Jk)) := by show _ = _; rw [<- he]; exact redoN_none m hfr
   have HF : Hid (∀ w2, Below wr.heap.size wr w2 -> JLeaves 104 S w w2 a p Dk Jk) := fun w2 hb => JLeaves.below ⟨S1, hS1, hs1, hj1, ho1⟩ hb
   rw [hfr] at CX
   clear he hm hok hde hdk hpk hS1 hs1 hj1 ho1 hna hok1 hfr hleft
   go_wp2_with fail
   refine CX.out.mono ?_
   rintro e w2 ⟨u, rfl, hu, hb⟩
   have HF2 := Lib.hid (HF.out _ hb); clear hb
   have hsh := own_shape hu
   clear hu
   obtain ⟨ao, c, rfl⟩ := hsh
   simp only [Option.getD_none, List.length_nil]
   go_wp2
   go_ret
   exact ⟨by rw [HR.out]; rfl, by rw [HR.out]; exact HF2.out⟩
  | some ws =>
   obtain ⟨f1, f2, f3, f4⟩ := frameOf_some hfr
   have hE := redoN_some m hfr
   rw [he] at hE
   rw [hfr] at CX
   have hok2 : (Jk.grow (ws.length + 1)).Ok D.disk.length := hok.grow _ (by unfold JS.left at f3; have := hok.fu; omega)
   have hl2 : (Jk.grow (ws.length + 1)).left = Jk.left - (ws.length + 1) := by unfold JS.left JS.grow; simp only; omega
   have hwl := Dk.wrs_len ws
   have hwd := Dk.wrs_disk ws
   have hwlive := Dk.wrs_live ws hde
   have HE := Lib.hid hE
   have HS1 := Lib.hid hS1; have HO1 := Lib.hid ho1; have HSt1 := Lib.hid hs1; have HJ1 := Lib.hid hj1; have HNA := Lib.hid hna
   have HOK := Lib.hid hok1; have HOK2 := Lib.hid hok2
   have HWd := Lib.hid hwd; have HWl := Lib.hid hwlive
   have HDk := Lib.hid hdk
   clear hE he hS1 ho1 hs1 hj1 hna hok1 hok2 hok hde hfr hdk hwd hwlive f4
   simp only [Option.getD_some] at CX
   go_wp2_with fail
   refine CX.out.mono ?_
   rintro e w2 ⟨u, rfl, hu, hb⟩
   have HB2 := Lib.hid hb; have HU2 := Lib.hid hu
   clear hb hu CX
   have hsh := own_shape HU2.out
   obtain ⟨ao, c, hv⟩ := hsh
   subst hv
   have f1' : (((ws.length : Nat) : Int) == 0) = false := beq_eq_false_iff_ne.2 (by omega)
   have hj2 := HJ1.out.below HB2.out
   have CG := Lib.hid (grow_any (ws.length + 1) hj2 HOK.out (by rw [HDk.out]; exact hnd) (by omega))
   have hcast : ((ws.length + 1 : Nat) : Int) = (ws.length : Int) + 1 := by omega
   rw [hcast] at CG
   clear hcast
   have hs2 := HSt1.out.below HB2.out
   have HJ2 := Lib.hid hj2; have HSt2 := Lib.hid hs2
   clear hj2 hs2
   go_wp2_with fail
   refine CG.out.mono ?_
   rintro e w3 ⟨rfl, hj3, ho3, _⟩
   have hs3 : Stands S1 w3 p Dk := HSt2.out.kept ho3 (fun k hk hka => HNA.out (hka ▸ hk))
   have hou : ∀ g off n' c', Value.slice ao ws.length c = .slice (some ⟨g, off, none⟩) n' c' -> wr.heap.size <= g := fun g off n' c' hv => (HU2.out.lt g (by rw [hv]; rfl)).1
   have hsl3 : SlW w3 (.slice ao ws.length c) ws := SlW.only HU2.out.sl ho3 (fun g off n' c' hv hg => by have := hou g off n' c' hv; have := HJ1.out.lt; omega)
   have hout : Outs S1 (.slice ao ws.length c) := fun g off n' c' hv hg => by have := hou g off n' c' hv; have := HSt1.out.lt _ hg; omega
   have CW := Lib.hid (writeAll_any hj3 hs3 HNA.out (by omega) (by omega) hsl3 hout)
   have HF : Hid (∀ w4, Leaves S1 w3 w4 p (Dk.wrs ws).2 -> JLeaves 104 S w w4 a p (Dk.wrs ws).2 (Jk.grow (ws.length + 1))) := fun w4 h => by
    refine JLeaves.next HS1.out HO1.out (JLeaves.from HB2.out (JLeaves.next (fun _ h => .inl h) (ho3.mono (fun _ _ h => .inr h)) (JLeaves.of h hj3 HNA.out)))
   clear hj3 hs3 ho3 hou hsl3 hout CG
   generalize Dk.wrs ws = R at *
   obtain ⟨er, DR⟩ := R
   simp only at HE CW HF HWd HWl hwl
   by_cases her : er = 0
   ·have her' : (er != 0) = false := by simp [her]
    rw [if_neg (by simpa using her)] at HE
    go_wp2_with fail
    refine CW.out.mono ?_
    rintro e w4 ⟨rfl, hv4⟩
    have HF4 := Lib.hid (HF.out _ hv4); clear hv4
    go_wp2
    go_roundg m
    case measure => exact Nat.lt_succ_self m
    case rel =>
     refine ⟨_, _, HE.out.symm, ?_, HOK2.out, HWl.out her, ?_, ?_, HF4.out⟩
     ·rw [hl2]; omega
     ·rw [HWd.out]; exact HDk.out
     ·rw [hl2]; omega
   ·have her' : (er != 0) = true := by simp [her]
    rw [if_pos (by simpa using her)] at HE
    go_wp2_with fail
    refine CW.out.mono ?_
    rintro e w4 ⟨rfl, hv4⟩
    have HF4 := Lib.hid (HF.out _ hv4); clear hv4
    go_wp2
    go_ret
    exact ⟨by rw [HE.out]; rfl, by rw [HE.out]; exact HF4.out⟩
end
end Go.Proofs.YthambopnmhkeeaaGreat
/- What Open answers and leaves behind, for every device. -/
set_option maxRecDepth 100000
namespace Go.Proofs.YthambopnmhkeeaaGreat
open Go.RowKit
section
variable {S : Nat -> Prop} {w w' : World} {a p : Nat} {J : JS} {D : DevS}
def Opened (t : TypeId) (S : Nat -> Prop) (w w' : World) (p : Nat) (r : Int × DevS × Option JS) (e : Ending) : Prop :=
 ∃ S' : Nat -> Prop, (∀ k, S' k -> S k \/ w.heap.size <= k) /\ Stands S' w' p r.2.1 /\ Only S w w' /\
  (match r.2.2 with
  | none => e = .returned (.tuple #[.pointer none, .int .i64 r.1])
  | some J => ∃ a, e = .returned (.tuple #[.pointer (some ⟨a, 0, none⟩), .int .i64 r.1]) /\ w.heap.size <= a /\ ¬ S' a /\ Jr t w' a p J)
theorem rdSlot_ok {t : ByteArray} {n : Nat} {x : Nat × Nat × Nat × Nat} (h : rdSlot t n = some x) : 50 <= x.2.2.1 /\ x.2.2.1 + 3 <= n /\ x.2.2.2 < x.2.2.1 /\ x.1 < 18446744073709551616 /\ x.2.1 < 18446744073709551616 := by
 obtain ⟨⟨h1, h2, h3, _⟩, rfl⟩ := (rdSlot_iff t n x).1 h
 exact ⟨h1, h2, h3, wideAt_lt _ _, wideAt_lt _ _⟩
theorem find_ok (h : D.find = some J) : J.Ok D.disk.length /\ J.full = 0 := by
 have hs : ∀ i x, i <= 1 -> D.slotAt i = some x -> (slotJ x i).Ok D.disk.length /\ (slotJ x i).full = 0 := by
  intro i x hi hx
  unfold DevS.slotAt at hx
  split at hx
  ·obtain ⟨h1, h2, h3, h4, h5⟩ := rdSlot_ok hx
   exact ⟨⟨h1, h2, h3, hi, Nat.zero_le _, h4, h5, h5⟩, rfl⟩
  ·cases hx
 unfold DevS.find at h
 split at h
 ·cases h
 ·rename_i x h0 h1; cases h; exact hs 0 x (by omega) h0
 ·rename_i x h0 h1; cases h; exact hs 1 x (by omega) h1
 ·rename_i x y h0 h1
  split at h
  ·cases h; exact hs 1 y (by omega) h1
  ·cases h; exact hs 0 x (by omega) h0
theorem redoN_keeps (m : Nat) : ∀ (J : JS) (D : DevS), J.Ok D.disk.length -> (J.redoN D m).2.1.disk.length = D.disk.length /\ (J.redoN D m).2.2.Ok D.disk.length /\ (J.redoN D m).2.1.pend.length + (J.redoN D m).2.2.left <= D.pend.length + J.left := by
 induction m with
 | zero => intro J D ok; exact ⟨rfl, ok, Nat.le_refl _⟩
 | succ m ih =>
  intro J D ok
  cases hfr : J.frameOf D with
  | none => rw [redoN_none m hfr]; exact ⟨rfl, ok, Nat.le_refl _⟩
  | some ws =>
   obtain ⟨f1, f2, f3, _⟩ := frameOf_some hfr
   have hl := ok.fu
   have ok2 : (J.grow (ws.length + 1)).Ok D.disk.length := ok.grow _ (by unfold JS.left at f3; omega)
   have hl2 : (J.grow (ws.length + 1)).left = J.left - (ws.length + 1) := by unfold JS.left JS.grow; simp only; omega
   have hw := D.wrs_len ws
   have hd := D.wrs_disk ws
   rw [redoN_some m hfr]
   split
   ·refine ⟨by rw [hd], ok2, ?_⟩
    show (D.wrs ws).2.pend.length + (J.grow (ws.length + 1)).left <= _
    rw [hl2]; omega
   ·have := ih (J.grow (ws.length + 1)) (D.wrs ws).2 (by rw [hd]; exact ok2)
    rw [hd] at this
    refine ⟨this.1, this.2.1, ?_⟩
    have := this.2.2
    rw [hl2] at this
    omega
theorem opened_of {X : World} {D' : DevS} {J' : JS} (hd : Stands S w p D) (hXb : Below w.heap.size w X) (hX : w.heap.size < X.heap.size) (h : JLeaves 104 S X w' w.heap.size p D' J') :
  ∃ S' : Nat -> Prop, (∀ k, S' k -> S k \/ w.heap.size <= k) /\ Stands S' w' p D' /\ Only S w w' /\ ¬ S' w.heap.size /\ Jr 104 w' w.heap.size p J' := by
 obtain ⟨S', hS', hs, hj, ho⟩ := h
 refine ⟨S', fun k hk => ?_, hs, ?_, fun h => ?_, hj⟩
 ·rcases hS' k hk with h | h
  ·exact .inl h
  ·exact .inr (by omega)
 ·exact (Only.of_below S hXb (Nat.le_refl _)).trans ho (fun i hi h => by rcases h with h | h; exact h; omega)
 ·rcases hS' _ h with h | h
  ·have := hd.lt _ h; omega
  ·omega
set_option maxHeartbeats 2000000 in
theorem open_any (hd : Stands S w p D) (hp : D.pend.length <= 600000) :
  Calls Tryz.prog 70 #[.pointer (some ⟨p, 0, none⟩)] w fun e w' => Opened 104 S w w' p D.opn e := by
 have hlt := hd.lt
 have hnd := hd.ok.few
 obtain ⟨X, hX⟩ : ∃ X, w.alloc (.cells #[.pointer (some ⟨p, 0, none⟩), .int .u64 0, .int .u64 0, .int .i64 0, .int .i64 0, .int .i64 0, .int .u64 0, .int .i64 0] 104) = X := ⟨_, rfl⟩
 have hXb : Below w.heap.size w X := by rw [<- hX]; exact (Below.refl _ _).alloc (Nat.le_refl _) _
 have hXj : Jr 104 X w.heap.size p ⟨0, 0, 0, 0, 0, 0, 0⟩ := by unfold Jr; rw [<- hX]; exact heap_alloc_new ..
 have hXs := hd.below hXb
 have hXz := hXj.lt
 have hna : ¬ S w.heap.size := fun h => by have := hlt _ h; omega
 have HX := Lib.hid hX; clear hX
 have HXB := Lib.hid hXb; have HD := Lib.hid hd
 cases hde : D.dead with
 | true =>
  have HO : Hid (D.opn = (4, D, none)) := by show _ = _; unfold DevS.opn; rw [hde]; rfl
  have CF := Lib.hid (find_dead hXj hXs hde (by omega))
  clear hXj hXs hna hde hlt hd hXb
  go_enter Tryz.func70, Tryz.ntmps70
  go_wp2_with fail
  rw [HX.out]
  refine CF.out.mono ?_
  rintro e w1 ⟨rfl, hb1⟩
  have HB1 : Hid (Below w.heap.size w w1) := HXB.out.trans (hb1.mono HXB.out.size)
  clear hb1
  go_wp2
  go_ret2
  unfold Opened
  rw [HO.out]
  exact ⟨S, fun _ => .inl, HD.out.below HB1.out, Only.of_below _ HB1.out (Nat.le_refl _), rfl⟩
 | false =>
  have CF := Lib.hid (find_live hXj hXs hna hde (by omega))
  cases hf : D.find with
  | none =>
   have HO : Hid (D.opn = (10, D, none)) := by show _ = _; unfold DevS.opn; rw [hde, hf]; rfl
   have HF := Lib.hid hf
   clear hXj hXs hna hde hlt hd hXb hf
   go_enter Tryz.func70, Tryz.ntmps70
   go_wp2_with fail
   rw [HX.out]
   refine CF.out.mono ?_
   rintro e w1 ⟨ho1, hp1, _⟩
   have he := hp1 HF.out
   subst he
   have HO1 : Hid (Only S w w1) := (Only.of_below S HXB.out (Nat.le_refl _)).trans ho1 (fun i hi h => by omega)
   have HS1 : Hid (Stands S w1 p D) := (HD.out.below HXB.out).kept ho1 (fun k hk hka => by have := HD.out.lt _ hk; omega)
   clear ho1 hp1 CF
   go_wp2
   go_ret2
   unfold Opened
   rw [HO.out]
   exact ⟨S, fun _ => .inl, HS1.out, HO1.out, rfl⟩
  | some J =>
   obtain ⟨hok, hfu⟩ := find_ok hf
   have HF := Lib.hid hf
   have HOp : Hid (D.opn = if (J.redo D).1 ≠ 0 then ((J.redo D).1, (J.redo D).2.1, none) else if ((J.redo D).2.2.ckp (J.redo D).2.1).1 ≠ 0 then (((J.redo D).2.2.ckp (J.redo D).2.1).1, ((J.redo D).2.2.ckp (J.redo D).2.1).2.1, none) else (0, ((J.redo D).2.2.ckp (J.redo D).2.1).2.1, some ((J.redo D).2.2.ckp (J.redo D).2.1).2.2)) := by
    show _ = _; unfold DevS.opn; rw [hde, hf]; rfl
   have hkp : (J.redo D).2.1.disk.length = D.disk.length /\ (J.redo D).2.2.Ok D.disk.length /\ (J.redo D).2.1.pend.length <= 700000 := by
    have h := redoN_keeps (J.log + 1) J D hok
    refine ⟨h.1, h.2.1, ?_⟩
    have h3 := h.2.2
    have := hok.l1
    have h4 : J.left <= 4096 := by unfold JS.left; omega
    show (J.redoN D (J.log + 1)).2.1.pend.length <= _
    omega
   have HK := Lib.hid hkp
   have HXS := Lib.hid hXs; have HNA := Lib.hid hna
   have HDE := Lib.hid hde; have HOK := Lib.hid hok
   clear hXj hXs hna hde hlt hd hXb hf hok hfu hkp
   go_enter Tryz.func70, Tryz.ntmps70
   go_wp2_with fail
   rw [HX.out]
   refine CF.out.mono ?_
   rintro e w1 ⟨ho1, _, hp1⟩
   obtain ⟨he, hj1⟩ := hp1 J HF.out
   subst he
   have hs1 : Stands S w1 p D := HXS.out.kept ho1 (fun k hk hka => HNA.out (hka ▸ hk))
   have CR := Lib.hid (redo_any hj1 hs1 HNA.out HOK.out HDE.out (by omega))
   have HO1 : Hid (∀ w2 D2 J2, JLeaves 104 S w1 w2 w.heap.size p D2 J2 -> JLeaves 104 S X w2 w.heap.size p D2 J2) := fun w2 D2 J2 h => JLeaves.next (fun _ h => .inl h) (ho1.mono (fun _ _ h => .inr h)) h
   clear ho1 hp1 hj1 hs1 CF
   generalize J.redo D = R1 at *
   obtain ⟨er1, D1, J1⟩ := R1
   simp only at HOp HK CR
   go_wp2_with fail
   refine CR.out.mono ?_
   rintro e w2 ⟨rfl, hv2⟩
   have HV2 := Lib.hid (HO1.out _ _ _ hv2)
   clear hv2 CR HO1
   by_cases he1 : er1 = 0
   ·have he1' : (er1 != 0) = false := by simp [he1]
    rw [if_neg (by simpa using he1)] at HOp
    obtain ⟨S2, hS2, hs2, hj2, ho2⟩ := HV2.out
    have hna2 : ¬ S2 w.heap.size := fun h => by rcases hS2 _ h with h | h; exact HNA.out h; omega
    have CK := Lib.hid (ckp_any hj2 hs2 hna2 (by rw [HK.out.1]; exact HK.out.2.1) (by have := HK.out.2.2; omega))
    have HV3 : Hid (∀ w3 D3 J3, JLeaves 104 S2 w2 w3 w.heap.size p D3 J3 -> JLeaves 104 S X w3 w.heap.size p D3 J3) := fun w3 D3 J3 h => JLeaves.next hS2 ho2 h
    clear hS2 hs2 hj2 ho2 hna2 HV2
    generalize J1.ckp D1 = R2 at *
    obtain ⟨er2, D2, J2⟩ := R2
    simp only at HOp CK
    go_wp2_with fail
    refine CK.out.mono ?_
    rintro e w3 ⟨rfl, hv3⟩
    have HV := Lib.hid (HV3.out _ _ _ hv3)
    clear hv3 CK HV3
    by_cases he2 : er2 = 0
    ·have he2' : (er2 != 0) = false := by simp [he2]
     rw [if_neg (by simpa using he2)] at HOp
     go_wp2
     go_ret2
     obtain ⟨S3, h1, h2, h3, h4, h5⟩ := opened_of HD.out HXB.out hXz HV.out
     unfold Opened
     rw [HOp.out]
     exact ⟨S3, h1, h2, h3, w.heap.size, rfl, Nat.le_refl _, h4, h5⟩
    ·have he2' : (er2 != 0) = true := by simp [he2]
     rw [if_pos (by simpa using he2)] at HOp
     go_wp2
     go_ret2
     obtain ⟨S3, h1, h2, h3, h4, h5⟩ := opened_of HD.out HXB.out hXz HV.out
     unfold Opened
     rw [HOp.out]
     exact ⟨S3, h1, h2, h3, rfl⟩
   ·have he1' : (er1 != 0) = true := by simp [he1]
    rw [if_pos (by simpa using he1)] at HOp
    go_wp2
    go_ret2
    obtain ⟨S3, h1, h2, h3, h4, h5⟩ := opened_of HD.out HXB.out hXz HV2.out
    unfold Opened
    rw [HOp.out]
    exact ⟨S3, h1, h2, h3, rfl⟩
end
end Go.Proofs.YthambopnmhkeeaaGreat
/- Journals on a device, in plain lists: what lies there when all is well; what a slot and a head are when they are torn; what is found and done by Open. -/
namespace Go.Proofs.YthambopnmhkeeaaGreat
open Go.RowKit
open Fr (bs fixL nmAt headB topL unp WrOk packL)
abbrev Wr := Int × ByteArray
def gd (d : List ByteArray) (b : Nat) : ByteArray := d.getD b ByteArray.empty
def natW (W : List Wr) : List (Nat × ByteArray) := W.map fun x => (x.1.toNat, x.2)
section lay
variable {f : Nat -> Nat} {P Q : List (Nat × ByteArray)} {disk : List ByteArray}
theorem laid_left (k : Nat) (hk : k <= P.length) : laidTo f (P ++ Q) disk k = laidTo f P disk k := by
 induction k with
 | zero => rfl
 | succ k ih =>
  rw [laidTo_succ f (P ++ Q) disk k (by rw [List.length_append]; omega), laidTo_succ f P disk k (by omega), ih (by omega), List.getElem_append_left (by omega)]
theorem laid_snoc (x : Nat × ByteArray) : laidTo f (P ++ [x]) disk (P ++ [x]).length = layOne (laidTo f P disk P.length) x (f P.length) := by
 rw [show (P ++ [x]).length = P.length + 1 by simp, laidTo_succ f (P ++ [x]) disk P.length (by simp), laid_left _ (Nat.le_refl _)]
 congr 1
 simp
theorem gd_layOne (d : List ByteArray) (x : Nat × ByteArray) (m b : Nat) (h : x.1 ≠ b) : gd (layOne d x m) b = gd d b := by
 unfold gd layOne; simp [List.getD, h]
theorem laid_other (b k : Nat) (h : ∀ x ∈ P, x.1 ≠ b) : gd (laidTo f P disk k) b = gd disk b := by
 induction k with
 | zero => rfl
 | succ k ih =>
  by_cases hk : k < P.length
  ·rw [laidTo_succ f P disk k hk, gd_layOne _ _ _ _ (h _ (List.getElem_mem hk)), ih]
  ·have e : laidTo f P disk (k + 1) = laidTo f P disk k := by rw [laidTo]; simp [List.getElem?_eq_none (Nat.le_of_not_lt hk)]
   rw [e, ih]
theorem laid_one (b : Nat) (x : ByteArray) (h : ∀ y ∈ P, y.1 ≠ b) (hb : b < disk.length) : gd (laidTo f (P ++ [(b, x)]) disk (P ++ [(b, x)]).length) b = layB x (gd disk b) (f P.length) := by
 rw [laid_snoc]
 have e := laid_other (f := f) (disk := disk) b P.length h
 unfold gd layOne at *
 rw [e]
 simp [List.getD, laidTo_length, hb]
end lay
theorem rdB_none {D : DevS} (b : Nat) (h : ∀ x ∈ D.pend, x.1 ≠ b) : D.rdB b = gd D.disk b := by
 unfold DevS.rdB gd
 have : D.pend.reverse.find? (fun x => x.1 == b) = none := by
  rw [List.find?_eq_none]; intro x hx; have := h x (List.mem_reverse.1 hx); simpa using this
 rw [this]
def Fit (n : Nat) (W : List Wr) : Prop := ∀ x ∈ W, 0 <= x.1 /\ x.1 < n /\ x.2.size = 256
theorem natW_append (A B : List Wr) : natW (A ++ B) = natW A ++ natW B := by unfold natW; rw [List.map_append]
structure Wrote (D D' : DevS) (W : List Wr) (e : Int) (k : Nat) : Prop where
 le : k <= W.length
 disk : D'.disk = D.disk
 pend : D'.pend = D.pend ++ natW (W.take k)
 how : (e = 0 /\ k = W.length /\ D'.dead = false) \/ (e = 4 /\ D'.dead = true)
theorem wr_cases (D : DevS) (hde : D.dead = false) (x : Wr) (h : 0 <= x.1 /\ x.1 < D.disk.length /\ x.2.size = 256) : ∃ k, Wrote D (D.wr x.1 x.2).2 [x] (D.wr x.1 x.2).1 k := by
 have hck : D.ck x.1 = 0 := by unfold DevS.ck; rw [hde]; simp; omega
 by_cases ht : D.tk.1 = false
 ·have e : D.wr x.1 x.2 = (4, D.tk.2) := by unfold DevS.wr; simp [hck, h.2.2, ht]
  rw [e]
  refine ⟨0, Nat.zero_le _, D.tk_disk, by simp [D.tk_pend, natW], .inr ⟨rfl, ?_⟩⟩
  unfold DevS.tk at ht ⊢
  split
  ·rename_i h1; rw [if_pos h1] at ht; cases ht
  ·split
   ·rfl
   ·rename_i h1 h2; rw [if_neg h1, if_neg h2] at ht; cases ht
 ·have ht' : D.tk.1 = true := by simpa using ht
  have e : D.wr x.1 x.2 = (0, { D.tk.2 with pend := D.pend ++ [(x.1.toNat, x.2)] }) := by unfold DevS.wr; simp [hck, h.2.2, ht]
  rw [e]
  exact ⟨1, Nat.le_refl _, D.tk_disk, by simp [natW], .inl ⟨rfl, rfl, by show D.tk.2.dead = false; rw [D.tk_dead ht', hde]⟩⟩
theorem wrs_cases (W : List Wr) : ∀ (D : DevS), D.dead = false -> Fit D.disk.length W -> ∃ k, Wrote D (D.wrs W).2 W (D.wrs W).1 k := by
 induction W with
 | nil => intro D hde _; exact ⟨0, Nat.le_refl _, rfl, by simp [natW, DevS.wrs], .inl ⟨rfl, rfl, hde⟩⟩
 | cons x r ih =>
  intro D hde hf
  obtain ⟨k, hk⟩ := wr_cases D hde x (hf x (List.mem_cons_self ..))
  unfold DevS.wrs
  rcases hk.how with ⟨h0, h1, h2⟩ | ⟨h0, h1⟩
  ·rw [if_neg (by rw [h0]; simp)]
   obtain ⟨k', hk'⟩ := ih (D.wr x.1 x.2).2 h2 (fun y hy => by rw [hk.disk]; exact hf y (List.mem_cons_of_mem _ hy))
   have e1 : (D.wr x.1 x.2).2.pend = D.pend ++ natW [x] := by rw [hk.pend, h1]; rfl
   refine ⟨k' + 1, by simpa using hk'.le, hk'.disk.trans hk.disk, ?_, ?_⟩
   ·rw [hk'.pend, e1, List.take_succ_cons, List.append_assoc, <- natW_append]; rfl
   ·rcases hk'.how with ⟨a, b, c⟩ | ⟨a, b⟩
    ·exact .inl ⟨a, by rw [b]; rfl, c⟩
    ·exact .inr ⟨a, b⟩
  ·rw [if_pos (by rw [h0]; simp)]
   refine ⟨0, Nat.zero_le _, hk.disk, ?_, .inr ⟨h0, h1⟩⟩
   have : k = 0 \/ k = 1 := by have := hk.le; simp at this; omega
   rcases this with rfl | rfl
   ·rw [hk.pend]; simp [natW]
   ·exfalso
    have hw := hk.pend
    have : (D.wr x.1 x.2).2.pend.length <= D.pend.length := by
     unfold DevS.wr at h0 ⊢
     split
     ·exact Nat.le_refl _
     ·split
      ·exact Nat.le_refl _
      ·split
       ·rw [DevS.tk_pend]; exact Nat.le_refl _
       ·rename_i a b c; rw [if_neg a, if_neg b, if_neg c] at h0; cases h0
    rw [hw] at this
    simp [natW] at this
    omega
theorem fl_cases (D : DevS) : (D.fl.1 = 0 /\ D.fl.2.dead = false /\ D.fl.2.disk = laidTo (fun _ => 256) D.pend D.disk D.pend.length /\ D.fl.2.pend = []) \/ (D.fl.1 = 4 /\ D.fl.2.dead = true /\ D.fl.2.disk = D.disk /\ D.fl.2.pend = D.pend) := by
 by_cases hd : D.dead = true
 ·have e : D.fl = (4, D) := by unfold DevS.fl; rw [if_pos hd]
  rw [e]; exact .inr ⟨rfl, hd, rfl, rfl⟩
 ·by_cases ht : D.tk.1 = false
  ·have e : D.fl = (4, D.tk.2) := by unfold DevS.fl; rw [if_neg hd, if_pos ht]
   rw [e]
   refine .inr ⟨rfl, ?_, D.tk_disk, D.tk_pend⟩
   unfold DevS.tk at ht ⊢
   split
   ·rename_i h1; rw [if_pos h1] at ht; cases ht
   ·split
    ·rfl
    ·rename_i h1 h2; rw [if_neg h1, if_neg h2] at ht; cases ht
  ·have e : D.fl = (0, { D.tk.2 with disk := laidTo (fun _ => 256) D.pend D.disk D.pend.length, pend := [] }) := by unfold DevS.fl; rw [if_neg hd, if_neg ht]
   rw [e]
   exact .inl ⟨rfl, by show D.tk.2.dead = false; rw [D.tk_dead (by simpa using ht)]; simpa using hd, rfl, rfl⟩
theorem stl_cases (D : DevS) (W : List Wr) (hde : D.dead = false) (hf : Fit D.disk.length W) :
  ((D.stl W).1 = 0 /\ (D.stl W).2.dead = false /\ (D.stl W).2.disk = laidTo (fun _ => 256) (D.pend ++ natW W) D.disk (D.pend ++ natW W).length /\ (D.stl W).2.pend = []) \/
  ((D.stl W).1 = 4 /\ (D.stl W).2.dead = true /\ (D.stl W).2.disk = D.disk /\ ∃ k, k <= W.length /\ (D.stl W).2.pend = D.pend ++ natW (W.take k)) := by
 obtain ⟨k, hk⟩ := wrs_cases W D hde hf
 unfold DevS.stl
 rcases hk.how with ⟨h0, h1, h2⟩ | ⟨h0, h1⟩
 ·rw [if_neg (by rw [h0]; simp)]
  have e : (D.wrs W).2.pend = D.pend ++ natW W := by rw [hk.pend, h1, List.take_length]
  rcases fl_cases (D.wrs W).2 with ⟨a, b, c, d⟩ | ⟨a, b, c, d⟩
  ·exact .inl ⟨a, b, by rw [c, e, hk.disk], d⟩
  ·exact .inr ⟨a, b, by rw [c, hk.disk], W.length, Nat.le_refl _, by rw [d, e, List.take_length]⟩
 ·rw [if_pos (by rw [h0]; simp)]
  exact .inr ⟨h0, h1, hk.disk, k, hk.le, hk.pend⟩
theorem layB_list (x old : ByteArray) (m : Nat) : (layB x old m).data.toList = x.data.toList.take m ++ old.data.toList.drop m := by
 unfold layB
 rw [ByteArray.data_append, Array.toList_append, ByteArray.data_extract, ByteArray.data_extract, Array.toList_extract, Array.toList_extract]
 simp only [List.extract_eq_take_drop, List.drop_zero, Nat.sub_zero]
 congr 1
 apply List.take_of_length_le
 simp
theorem half_at (e s log p : Nat) (he : e < 18446744073709551616) (hs : s < 18446744073709551616) (hl : log < 4294967296) (hp : p < 4294967296) (Z : List UInt8) :
  wideAt (halfL e s log p ++ Z) 4 = e /\ wideAt (halfL e s log p ++ Z) 12 = s /\ nmAt (halfL e s log p ++ Z) 20 = log /\ nmAt (halfL e s log p ++ Z) 24 = p := by
 have hA : halfL e s log p ++ Z = [67, 68, 88, 83] ++ (fixL (e % 4294967296) ++ (fixL (e / 4294967296) ++ (fixL (s % 4294967296) ++ (fixL (s / 4294967296) ++ (fixL log ++ (fixL p ++ (List.replicate 100 0 ++ Z))))))) := by
  unfold halfL; simp only [List.append_assoc]
 rw [hA]
 have st (A B : List UInt8) (i : Nat) (h : A.length = 4) : nmAt (A ++ B) (4 + i) = nmAt B i := by rw [<- h]; exact Fr.nmAt_right A B i
 have f (v : Nat) (B : List UInt8) (i : Nat) : nmAt (fixL v ++ B) (4 + i) = nmAt B i := st _ _ _ (Fr.fixL_len v)
 refine ⟨?_, ?_, ?_, ?_⟩
 ·unfold wideAt
  rw [show (4 : Nat) = 4 + 0 from rfl, st _ _ 0 rfl, Fr.nmAt_fix _ _ (by omega), show (4 + 0 + (4 + 0) : Nat) = 4 + (4 + 0) from rfl, st _ _ _ rfl, f, Fr.nmAt_fix _ _ (by omega)]
  omega
 ·unfold wideAt
  rw [show (12 : Nat) = 4 + (4 + (4 + 0)) from rfl, st _ _ _ rfl, f, f, Fr.nmAt_fix _ _ (by omega), show (4 + (4 + (4 + 0)) + 4 : Nat) = 4 + (4 + (4 + (4 + 0))) from rfl, st _ _ _ rfl, f, f, f, Fr.nmAt_fix _ _ (by omega)]
  omega
 ·rw [show (20 : Nat) = 4 + (4 + (4 + (4 + (4 + 0)))) from rfl, st _ _ _ rfl, f, f, f, f, Fr.nmAt_fix _ _ (by omega)]
 ·rw [show (24 : Nat) = 4 + (4 + (4 + (4 + (4 + (4 + 0))))) from rfl, st _ _ _ rfl, f, f, f, f, f, Fr.nmAt_fix _ _ (by omega)]
theorem rdSlot_slotB (e s log p n : Nat) (he : e < 18446744073709551616) (hs : s < 18446744073709551616) (h1 : 50 <= log) (h2 : log + 3 <= n) (hn : n <= 4096) (hp : p < log) : rdSlot (slotB e s log p) n = some (e, s, log, p) := by
 obtain ⟨a, b, c, d⟩ := half_at e s log p he hs (by omega) (by omega) (halfL e s log p)
 have hl : (slotB e s log p).data.toList = halfL e s log p ++ halfL e s log p := rfl
 refine (rdSlot_iff _ _ _).2 ?_
 rw [hl, a, b, c, d]
 exact ⟨⟨h1, h2, hp, rfl⟩, rfl⟩
theorem half_inj {e s log p e' s' log' p' : Nat} (he : e < 18446744073709551616) (hs : s < 18446744073709551616) (hl : log < 4294967296) (hp : p < 4294967296)
  (he' : e' < 18446744073709551616) (hs' : s' < 18446744073709551616) (hl' : log' < 4294967296) (hp' : p' < 4294967296) (h : halfL e s log p = halfL e' s' log' p') : e = e' /\ s = s' /\ log = log' /\ p = p' := by
 obtain ⟨a, b, c, d⟩ := half_at e s log p he hs hl hp []
 obtain ⟨a', b', c', d'⟩ := half_at e' s' log' p' he' hs' hl' hp' []
 rw [h] at a b c d
 exact ⟨a.symm.trans a', b.symm.trans b', c.symm.trans c', d.symm.trans d'⟩
theorem rdSlot_bytes {t : ByteArray} {n : Nat} {x : Nat × Nat × Nat × Nat} (h : rdSlot t n = some x) : t = slotB x.1 x.2.1 x.2.2.1 x.2.2.2 := by
 obtain ⟨⟨_, _, _, h2⟩, rfl⟩ := (rdSlot_iff t n x).1 h
 exact h2
theorem torn_slot (e s log p n m : Nat) (old : ByteArray) (he : e < 18446744073709551616) (hs : s < 18446744073709551616) (h2 : log + 3 <= n) (hn : n <= 4096) (hp : p < log) (x : Nat × Nat × Nat × Nat)
  (h : rdSlot (layB (slotB e s log p) old m) n = some x) : x = (e, s, log, p) \/ old.data.toList.drop 128 = halfL x.1 x.2.1 x.2.2.1 x.2.2.2 := by
 have hx := rdSlot_bytes h
 obtain ⟨x0, x1, x2, x3, x4⟩ := rdSlot_ok h
 obtain ⟨xe, xs, xl, xp⟩ := x
 simp only at hx x0 x1 x2 x3 x4 ⊢
 have hX := congrArg (fun b : ByteArray => b.data.toList) hx
 rw [layB_list] at hX
 have hN : (slotB e s log p).data.toList = halfL e s log p ++ halfL e s log p := rfl
 have hM : (slotB xe xs xl xp).data.toList = halfL xe xs xl xp ++ halfL xe xs xl xp := rfl
 have hlN := halfL_len e s log p
 have hlX := halfL_len xe xs xl xp
 rw [hN, hM] at hX
 by_cases hm : m <= 128
 ·right
  have := congrArg (List.drop 128) hX
  rw [List.drop_append, List.length_take, List.length_append, hlN, List.drop_left' hlX, List.drop_of_length_le (by rw [List.length_take, List.length_append, hlN]; omega), List.nil_append, List.drop_drop] at this
  rw [<- this]; congr 1; omega
 ·left
  have := congrArg (List.take 128) hX
  rw [List.take_left' hlX, List.take_append, List.length_take, List.length_append, hlN, List.take_take, show min 128 m = 128 by omega, List.take_left' hlN, show 128 - min m (128 + 128) = 0 by omega, List.take_zero, List.append_nil] at this
  obtain ⟨a, b, c, d⟩ := half_inj he hs (by omega) (by omega) x3 x4 (by omega) (by omega) this
  rw [a, b, c, d]
theorem layB_twice (x old : ByteArray) (m k : Nat) (hx : x.size = 256) (hm : m <= 256) : layB x (layB x old m) k = layB x old (max m k) := by
 apply ByteArray.ext
 apply Array.ext'
 rw [layB_list, layB_list, layB_list]
 have hl : x.data.toList.length = 256 := by rw [Fr.str_len, hx]
 rw [List.drop_append, List.length_take, hl, show min m 256 = m by omega]
 by_cases h : m <= k
 ·rw [show max m k = k by omega, List.drop_of_length_le (by rw [List.length_take]; omega), List.nil_append, List.drop_drop]
  congr 2; omega
 ·rw [show max m k = m by omega, show k - m = 0 by omega, List.drop_zero, <- List.append_assoc]
  congr 1
  rw [List.drop_take]
  conv => rhs; rw [show m = k + (m - k) by omega]
  rw [List.take_add]
def Older (o : ByteArray) (e : Nat) : Prop := o.size = 256 /\ ∀ a b c d, a < 18446744073709551616 -> b < 18446744073709551616 -> c < 4294967296 -> d < 4294967296 -> o.data.toList.drop 128 = halfL a b c d -> a < e
theorem older_slot (e s log p : Nat) (he : e < 18446744073709551616) (hs : s < 18446744073709551616) (hl : log < 4294967296) (hp : p < 4294967296) : Older (slotB e s log p) (e + 1) := by
 refine ⟨slotB_size _ _ _ _, fun a b c d ha hb hc hd h => ?_⟩
 have hN : (slotB e s log p).data.toList = halfL e s log p ++ halfL e s log p := rfl
 rw [hN, List.drop_left' (halfL_len ..)] at h
 have := (half_inj he hs hl hp ha hb hc hd h).1
 omega
theorem older_noughts (e : Nat) : Older noughts e := by
 refine ⟨noughts_size, fun a b c d _ _ _ _ h => ?_⟩
 have : noughts.data.toList.drop 128 = List.replicate 128 0 := by decide +kernel
 rw [this] at h
 have := congrArg (fun l : List UInt8 => l.getD 0 0) h
 simp [halfL] at this
theorem headB_noughts : headB noughts.data.toList = false := by decide +kernel
theorem headB_begin (l : List UInt8) (h : l.getD 0 0 ≠ 67) : headB l = false := by
 cases hb : headB l with
 | false => rfl
 | true =>
  have h2 := ((Fr.headB_iff l).1 hb).2.1
  have := congrArg (fun l : List UInt8 => l.getD 0 0) h2
  simp only [Fr.cdxt] at this
  rw [Fr.getD_take _ _ _ (by omega)] at this
  exact absurd this h
theorem headB_end (l : List UInt8) (h : l.getD 255 0 ≠ 69) : headB l = false := by
 cases hb : headB l with
 | false => rfl
 | true =>
  have h2 := ((Fr.headB_iff l).1 hb).2.2.1
  have := congrArg (fun l : List UInt8 => l.getD 3 0) h2
  simp only [Fr.cdxe] at this
  rw [Fr.getD_drop] at this
  exact absurd this h
theorem noughts_at (i : Nat) : noughts.data.toList.getD i 0 = 0 := by
 have : noughts.data.toList = List.replicate 256 0 := by rw [noughts_bs]; rfl
 rw [this]
 simp only [List.getD, List.getElem?_replicate]
 split <;> rfl
theorem drop_getD (l : List UInt8) (k i : Nat) : (l.drop k).getD i 0 = l.getD (k + i) 0 := by simp [List.getD]
theorem torn_head (x : ByteArray) (m : Nat) (hx : x.size = 256) (hm : m < 256) : headB (layB x noughts m).data.toList = false := by
 apply headB_end
 rw [layB_list]
 have hl : (x.data.toList.take m).length = m := by rw [List.length_take, Fr.str_len, hx]; omega
 rw [show (255 : Nat) = (x.data.toList.take m).length + (255 - m) by omega, Fr.getD_right, drop_getD, noughts_at]
 decide
theorem torn_noughts (old : ByteArray) (m : Nat) (h : headB old.data.toList = false) : headB (layB noughts old m).data.toList = false := by
 cases m with
 | zero => rw [layB_none]; exact h
 | succ m =>
  apply headB_begin
  rw [layB_list]
  rw [Fr.getD_left _ _ _ (by rw [List.length_take, Fr.str_len, noughts_size]; omega), Fr.getD_take _ _ _ (by omega), noughts_at]
  decide
end Go.Proofs.YthambopnmhkeeaaGreat
/- What lies on a device with a journal when all is well, what Open finds there and does, in plain lists. -/
namespace Go.Proofs.YthambopnmhkeeaaGreat
open Go.RowKit
open Fr (bs fixL nmAt headB topL unp WrOk packL)
theorem chk_log {J K : JS} (h : J.log = K.log) (n : Nat) (f : List (Int × ByteArray)) : J.chk n f = K.chk n f := by
 have h1 : ∀ x, J.chk1 n x = K.chk1 n x := fun x => by unfold JS.chk1 JS.home; rw [h]
 have h2 : J.chkL n f = K.chkL n f := by
  induction f with
  | nil => rfl
  | cons x f ih => unfold JS.chkL; rw [h1, ih]
 unfold JS.chk; rw [h2]
def fsz : List (List Wr) -> Nat
 | [] => 0
 | f :: F => f.length + 1 + fsz F
theorem fsz_append (A B : List (List Wr)) : fsz (A ++ B) = fsz A + fsz B := by
 induction A with
 | nil => simp [fsz]
 | cons f A ih => simp only [List.cons_append, fsz, ih]; omega
def LaidF (g : Nat -> ByteArray) (log p : Nat) : Nat -> Nat -> List (List Wr) -> Prop
 | _, _, [] => True
 | o, s, f :: F => g (2 + (p + o) % log) = bs (topL s f) /\ (∀ j (h : j < f.length), g (2 + (p + o + (j + 1)) % log) = f[j].2) /\ LaidF g log p (o + (f.length + 1)) (s + 1) F
theorem LaidF.congr {g g' : Nat -> ByteArray} {log p : Nat} : ∀ {F : List (List Wr)} {o s : Nat}, LaidF g log p o s F -> (∀ i, o <= i -> i < o + fsz F -> g' (2 + (p + i) % log) = g (2 + (p + i) % log)) -> LaidF g' log p o s F
 | [], _, _, _, _ => trivial
 | f :: F, o, s, h, hg => by
  obtain ⟨h1, h2, h3⟩ := h
  have e : fsz (f :: F) = f.length + 1 + fsz F := rfl
  refine ⟨by rw [hg o (Nat.le_refl _) (by omega)]; exact h1, fun j hj => ?_, LaidF.congr h3 (fun i hi hl => hg i (by omega) (by omega))⟩
  have := hg (o + (j + 1)) (by omega) (by omega)
  rw [<- Nat.add_assoc] at this
  rw [this]; exact h2 j hj
theorem LaidF.snoc {g : Nat -> ByteArray} {log p : Nat} (W : List Wr) : ∀ {F : List (List Wr)} {o s : Nat}, LaidF g log p o s F -> g (2 + (p + (o + fsz F)) % log) = bs (topL (s + F.length) W) -> (∀ j (h : j < W.length), g (2 + (p + (o + fsz F) + (j + 1)) % log) = W[j].2) -> LaidF g log p o s (F ++ [W])
 | [], o, s, _, h1, h2 => ⟨h1, h2, trivial⟩
 | f :: F, o, s, h, h1, h2 => by
  obtain ⟨a, b, c⟩ := h
  have e : fsz (f :: F) = f.length + 1 + fsz F := rfl
  refine ⟨a, b, LaidF.snoc W c ?_ ?_⟩
  ·rw [show o + (f.length + 1) + fsz F = o + fsz (f :: F) by rw [e]; omega, h1]
   congr 2; simp; omega
  ·intro j hj
   rw [show o + (f.length + 1) + fsz F = o + fsz (f :: F) by rw [e]; omega]
   exact h2 j hj
theorem mod_ne (p log a b : Nat) (ha : a < log) (hb : b < log) (h : a ≠ b) : (p + a) % log ≠ (p + b) % log := by
 intro e
 have : a % log = b % log := by
  have h1 : (p + a) % log = (p % log + a % log) % log := Nat.add_mod p a log
  have h2 : (p + b) % log = (p % log + b % log) % log := Nat.add_mod p b log
  rw [h1, h2, Nat.mod_eq_of_lt ha, Nat.mod_eq_of_lt hb] at e
  have hp := Nat.mod_lt p (show 0 < log by omega)
  generalize p % log = q at *
  by_cases c1 : q + a < log
  ·by_cases c2 : q + b < log
   ·rw [Nat.mod_eq_of_lt c1, Nat.mod_eq_of_lt c2] at e; omega
   ·rw [Nat.mod_eq_of_lt c1, Nat.mod_eq_sub_mod (by omega), Nat.mod_eq_of_lt (by omega)] at e; omega
  ·by_cases c2 : q + b < log
   ·rw [Nat.mod_eq_of_lt c2, Nat.mod_eq_sub_mod (by omega), Nat.mod_eq_of_lt (show q + a - log < log by omega)] at e; omega
   ·rw [Nat.mod_eq_sub_mod (show q + a >= log by omega), Nat.mod_eq_of_lt (show q + a - log < log by omega), Nat.mod_eq_sub_mod (show q + b >= log by omega), Nat.mod_eq_of_lt (show q + b - log < log by omega)] at e; omega
 rw [Nat.mod_eq_of_lt ha, Nat.mod_eq_of_lt hb] at this
 exact h this
def JS.tgt (J : JS) : ByteArray := slotB (J.e + 1) J.next J.log (J.pos 0 - 2)
structure Good (N : Nat) (g : Nat -> ByteArray) (n : Nat) (J : JS) (F : List (List Wr)) : Prop where
 ok : J.Ok n
 n4 : n <= 4096
 lg : J.log = 60
 big : N < 1000000
 bnd : J.e <= N /\ J.next <= N
 next : J.next = J.s + F.length
 full : J.full = fsz F
 room : J.full + 1 <= J.log
 here : g J.side = slotB J.e J.s J.log J.p
 other : ∃ old m, m <= 256 /\ Older old J.e /\ g (1 - J.side) = layB J.tgt old m /\ g (1 - J.side) ≠ J.tgt
 laid : LaidF g J.log J.p 0 J.s F
 fine : ∀ f ∈ F, J.chk n f = 0
 stop : headB (g (J.pos 0)).data.toList = false
section
variable {N n : Nat} {g g' : Nat -> ByteArray} {J : JS} {F : List (List Wr)}
theorem Good.change (h : Good N g n J F) (h0 : g' J.side = g J.side) (h1 : g' (1 - J.side) = g (1 - J.side)) (hl : ∀ o, o <= J.full -> g' (2 + (J.p + o) % J.log) = g (2 + (J.p + o) % J.log)) : Good N g' n J F := by
 refine ⟨h.ok, h.n4, h.lg, h.big, h.bnd, h.next, h.full, h.room, h0.trans h.here, ?_, ?_, h.fine, ?_⟩
 ·rw [h1]; exact h.other
 ·exact h.laid.congr (fun i _ hi => hl i (by rw [h.full]; omega))
 ·have := hl J.full (Nat.le_refl _)
  unfold JS.pos
  rw [Nat.add_zero, this]
  exact h.stop
theorem Good.more (h : Good N g n J F) {M : Nat} (hM : N <= M) (hb : M < 1000000) : Good M g n J F :=
 ⟨h.ok, h.n4, h.lg, hb, ⟨Nat.le_trans h.bnd.1 hM, Nat.le_trans h.bnd.2 hM⟩, h.next, h.full, h.room, h.here, h.other, h.laid, h.fine, h.stop⟩
theorem Good.other_lt (h : Good N g n J F) (x : Nat × Nat × Nat × Nat) (hx : rdSlot (g (1 - J.side)) n = some x) : x.1 < J.e := by
 obtain ⟨old, m, hm, ho, he, hne⟩ := h.other
 have hb := h.bnd; have hbig := h.big
 have hp := h.ok.pos_lt 0
 have h1 := h.ok.l1; have h4 := h.n4
 have hx' := hx
 rw [he] at hx
 unfold JS.tgt at hx
 rcases torn_slot (J.e + 1) J.next J.log (J.pos 0 - 2) n m old (by omega) (by omega) h1 h4 (by omega) x hx with e | e
 ·have := rdSlot_bytes hx'
  rw [e] at this
  exact absurd this hne
 ·obtain ⟨x0, x1, x2, x3, x4⟩ := rdSlot_ok hx
  exact ho.2 x.1 x.2.1 x.2.2.1 x.2.2.2 x3 x4 (by omega) (by omega) e
end
section
variable {N n : Nat} {J : JS} {D : DevS} {F : List (List Wr)}
def JS.fresh (J : JS) : JS := { J with next := J.s, full := 0 }
theorem find_pend (h : Good N (gd D.disk) n J F) (hn : D.disk.length = n) (hp : ∀ x ∈ D.pend, 2 <= x.1) : D.find = some J.fresh := by
 have hlog := h.ok.l0; have h1 := h.ok.l1
 have hrd : ∀ i, i < 2 -> D.slotAt i = rdSlot (gd D.disk i) n := by
  intro i hi
  unfold DevS.slotAt
  rw [if_pos (by omega), rdB_none i (fun x hx => by have := hp x hx; omega), hn]
 have hs := h.ok.si
 have hh : D.slotAt J.side = some (J.e, J.s, J.log, J.p) := by
  rw [hrd _ (by omega), h.here]
  exact rdSlot_slotB _ _ _ _ _ h.ok.e64 h.ok.s64 hlog h1 h.n4 h.ok.pl
 have ho : ∀ x, D.slotAt (1 - J.side) = some x -> x.1 < J.e := by
  intro x hx
  rw [hrd _ (by omega)] at hx
  exact h.other_lt x hx
 have hj : slotJ (J.e, J.s, J.log, J.p) J.side = J.fresh := rfl
 unfold DevS.find
 rcases Nat.lt_or_ge 0 J.side with h0 | h0
 ·have e : J.side = 1 := by omega
  rw [e] at hh ho hj
  rw [show 1 - 1 = 0 from rfl] at ho
  rw [hh]
  cases h00 : D.slotAt 0 with
  | none => simp only; rw [hj]
  | some x =>
   simp only
   rw [if_pos (ho x h00), hj]
 ·have e : J.side = 0 := by omega
  rw [e] at hh ho hj
  rw [hh]
  cases h11 : D.slotAt 1 with
  | none => simp only; rw [hj]
  | some x =>
   have := ho x h11
   simp only
   rw [if_neg (by omega), hj]
theorem frame_laid {g : Nat -> ByteArray} {f : List Wr} (hn : D.disk.length = n) (h4 : n <= 4096) (ok : J.Ok n) (hrd : ∀ b, 2 <= b -> b < 2 + J.log -> D.rdB b = g b) (hl : LaidF g J.log J.p J.full J.next (f :: F)) (hf : J.chk n f = 0) (hr : J.full + (f.length + 1) <= J.log) : J.frameOf D = some f := by
 obtain ⟨a, b, _⟩ := hl
 obtain ⟨l1, l2, hw⟩ := (J.chk_ok n f).1 hf
 have hw' : ∀ x ∈ f, Fr.WrOk x := fun x hx => JS.wrok_frame h4 (hw x hx)
 have hp0 := ok.pos_lt 0
 have e0 : D.rdB (J.pos 0) = bs (topL J.next f) := by
  rw [hrd _ hp0.1 hp0.2]
  show g (2 + (J.p + J.full + 0) % J.log) = _
  rw [Nat.add_zero]; exact a
 obtain ⟨t1, t2, t3, _⟩ := Fr.top_parts J.next f ok.n64 l1 l2 hw'
 have ed : (D.rdB (J.pos 0)).data.toList = topL J.next f := by rw [e0]; rfl
 have ef : J.frameAt D = packL J.next f := by
  unfold JS.frameAt packL
  rw [ed, t2, e0]
  congr 1
  apply List.ext_getElem
  ·simp
  ·intro i h1 h2
   have hi : i < f.length := by simpa using h1
   simp only [List.getElem_map, List.getElem_range]
   have hpi := ok.pos_lt (i + 1)
   rw [hrd _ hpi.1 hpi.2]
   exact b i hi
 have hu := Fr.unp_pack J.next f [] ok.n64 l1 l2 hw'
 rw [List.append_nil] at hu
 unfold JS.frameOf
 rw [ef, hu, ed, hn, if_pos ⟨t1, by rw [t2]; unfold JS.left; omega, rfl, rfl, hf⟩]
def JS.after (J : JS) (F : List (List Wr)) : JS := { J with next := J.next + F.length, full := J.full + fsz F }
theorem redo_laid {g : Nat -> ByteArray} (h4 : n <= 4096) : ∀ (F : List (List Wr)) (J : JS) (D : DevS) (m : Nat), D.disk.length = n -> D.dead = false -> J.Ok n -> (∀ b, b < 2 + J.log -> gd D.disk b = g b) -> (∀ x ∈ D.pend, J.home <= x.1) ->
  LaidF g J.log J.p J.full J.next F -> (∀ f ∈ F, J.chk n f = 0) -> J.full + fsz F <= J.log -> J.next + F.length < 18446744073709551616 -> headB (g (2 + (J.p + (J.full + fsz F)) % J.log)).data.toList = false -> F.length < m ->
  ∃ J', J.redoN D m = ((D.wrs F.flatten).1, (D.wrs F.flatten).2, J') /\ ((D.wrs F.flatten).1 = 0 -> J' = J.after F) := by
 intro F
 induction F with
 | nil =>
  intro J D m hn hde ok hg hp hl hf hr hx hs hm
  obtain ⟨m, rfl⟩ : ∃ k, m = k + 1 := ⟨m - 1, by simp at hm; omega⟩
  have hp0 := ok.pos_lt 0
  have e0 : D.rdB (J.pos 0) = g (J.pos 0) := by
   rw [rdB_none _ (fun x hx => by have := hp x hx; unfold JS.home at this; omega)]
   exact hg _ hp0.2
  have hnone : J.frameOf D = none := by
   unfold JS.frameOf
   rw [if_neg]
   intro hc
   rw [e0] at hc
   have : J.pos 0 = 2 + (J.p + (J.full + fsz [])) % J.log := by unfold JS.pos fsz; rfl
   rw [<- this] at hs
   rw [hs] at hc
   exact absurd hc.1 (by simp)
  exact ⟨J, redoN_none m hnone, fun _ => by unfold JS.after fsz; simp⟩
 | cons f F ih =>
  intro J D m hn hde ok hg hp hl hf hr hx hs hm
  obtain ⟨m, rfl⟩ : ∃ k, m = k + 1 := ⟨m - 1, by simp at hm; omega⟩
  have e : fsz (f :: F) = f.length + 1 + fsz F := rfl
  have hfr : J.frameOf D = some f := frame_laid (g := g) (F := F) hn h4 ok (fun b h2 hb => by
   rw [rdB_none _ (fun x hx => by have := hp x hx; unfold JS.home at this; omega)]; exact hg b hb) hl (hf f (List.mem_cons_self ..)) (by omega)
  rw [redoN_some m hfr, List.flatten_cons]
  by_cases h0 : (D.wrs f).1 = 0
  ·rw [if_neg (by rw [h0]; simp), D.wrs_append f F.flatten h0]
   have hfit : Fit D.disk.length f := fun x hx => by
    obtain ⟨a, b, c⟩ := ((J.chk_ok n f).1 (hf f (List.mem_cons_self ..))).2.2 x hx
    unfold JS.home at a
    exact ⟨by omega, by rw [hn]; omega, c⟩
   obtain ⟨k, hk⟩ := wrs_cases f D hde hfit
   obtain ⟨J', h1, h2⟩ := ih (J.grow (f.length + 1)) (D.wrs f).2 m (by rw [hk.disk]; exact hn) (D.wrs_live f hde h0) (ok.grow _ (by omega)) (by rw [hk.disk]; exact hg) (by
     intro x hx
     rw [hk.pend] at hx
     rcases List.mem_append.1 hx with hx | hx
     ·exact hp x hx
     ·unfold natW at hx
      obtain ⟨y, hy, rfl⟩ := List.mem_map.1 hx
      obtain ⟨a, b, c⟩ := ((J.chk_ok n f).1 (hf f (List.mem_cons_self ..))).2.2 y (List.mem_of_mem_take hy)
      show J.home <= y.1.toNat
      omega) (by
     have : (J.grow (f.length + 1)).next = J.next + 1 := by
      show (J.next + 1) % 18446744073709551616 = _
      rw [List.length_cons] at hx
      exact Nat.mod_eq_of_lt (by omega)
     rw [this]
     exact hl.2.2) (fun f' h' => (chk_log (J := J.grow (f.length + 1)) (K := J) rfl n f').trans (hf f' (List.mem_cons_of_mem _ h'))) (by
     show J.full + (f.length + 1) + fsz F <= J.log; omega) (by
     have : (J.grow (f.length + 1)).next = J.next + 1 := by
      show (J.next + 1) % 18446744073709551616 = _
      rw [List.length_cons] at hx
      exact Nat.mod_eq_of_lt (by omega)
     rw [this]; rw [List.length_cons] at hx; omega) (by
     show headB (g (2 + (J.p + (J.full + (f.length + 1) + fsz F)) % J.log)).data.toList = false
     rw [show J.full + (f.length + 1) + fsz F = J.full + fsz (f :: F) by rw [e]; omega]
     exact hs) (by rw [List.length_cons] at hm; omega)
   refine ⟨J', h1, fun h => ?_⟩
   rw [h2 h]
   unfold JS.after JS.grow
   simp only
   rw [List.length_cons] at hx
   rw [Nat.mod_eq_of_lt (show J.next + 1 < _ by omega), e, List.length_cons]
   congr 1 <;> omega
  ·rw [if_pos h0, D.wrs_err f F.flatten h0]
   exact ⟨_, rfl, fun h => absurd h h0⟩
end
end Go.Proofs.YthambopnmhkeeaaGreat
/- Crashes, in plain lists: behind whatever is kept of what is pending, Open finds home as the commits made it. -/
namespace Go.Proofs.YthambopnmhkeeaaGreat
open Go.RowKit
open Fr (bs fixL nmAt headB topL unp WrOk packL)
def vN (P : List (Nat × ByteArray)) (g : Nat -> ByteArray) (b : Nat) : ByteArray := match P.reverse.find? (fun x => x.1 == b) with | some x => x.2 | none => g b
theorem rdB_vN (D : DevS) (b : Nat) : D.rdB b = vN D.pend (gd D.disk) b := by unfold DevS.rdB vN gd; rfl
theorem vN_append (P Q : List (Nat × ByteArray)) (g : Nat -> ByteArray) (b : Nat) : vN (P ++ Q) g b = vN Q (vN P g) b := by
 unfold vN
 rw [List.reverse_append, List.find?_append]
 cases Q.reverse.find? (fun x => x.1 == b) <;> rfl
theorem vN_none {P : List (Nat × ByteArray)} {g : Nat -> ByteArray} {b : Nat} (h : ∀ x ∈ P, x.1 ≠ b) : vN P g b = g b := by
 unfold vN
 have : P.reverse.find? (fun x => x.1 == b) = none := by
  rw [List.find?_eq_none]; intro x hx; have := h x (List.mem_reverse.1 hx); simpa using this
 rw [this]
theorem vN_hit {P : List (Nat × ByteArray)} {g g' : Nat -> ByteArray} {b : Nat} (h : (∃ x ∈ P, x.1 = b) \/ g b = g' b) : vN P g b = vN P g' b := by
 unfold vN
 cases hf : P.reverse.find? (fun x => x.1 == b) with
 | some x => rfl
 | none =>
  rcases h with ⟨x, hx, rfl⟩ | h
  ·rw [List.find?_eq_none] at hf
   have := hf x (List.mem_reverse.2 hx)
   simp at this
  ·exact h
theorem vN_at {P Q : List (Nat × ByteArray)} {x : Nat × ByteArray} {g : Nat -> ByteArray} (h : ∀ y ∈ Q, y.1 ≠ x.1) : vN (P ++ x :: Q) g x.1 = x.2 := by
 rw [vN_append, show x :: Q = [x] ++ Q from rfl, vN_append, vN_none h]
 unfold vN; simp
theorem laid256 {P : List (Nat × ByteArray)} {d : List ByteArray} (b : Nat) (hb : b < d.length) (hd : ∀ s ∈ d, s.size = 256) (hp : ∀ x ∈ P, x.1 < d.length /\ x.2.size = 256) : gd (laidTo (fun _ => 256) P d P.length) b = vN P (gd d) b := by
 have := (laidTo_get (fun _ => 256) P d P.length b (Nat.le_refl _) (fun _ _ => rfl) hb hd hp).1
 unfold gd vN
 rw [this, List.take_length]
 rfl
structure Rec (N n : Nat) (d : List ByteArray) (H : Nat -> ByteArray) (J : JS) (F : List (List Wr)) : Prop where
 len : d.length = n
 whole : ∀ s ∈ d, s.size = 256
 good : Good N (gd d) n J F
 view : ∀ b, 62 <= b -> b < n -> vN (natW F.flatten) (gd d) b = H b
def Safe (N n : Nat) (D : DevS) (P : (Nat -> ByteArray) -> Prop) : Prop := ∀ f : Nat -> Nat, (∀ k, f k <= 256) -> ∃ H J F, P H /\ Rec N n (laidTo f D.pend D.disk D.pend.length) H J F
theorem Safe.mono {N n : Nat} {D : DevS} {P Q : (Nat -> ByteArray) -> Prop} (h : Safe N n D P) (hq : ∀ H, P H -> Q H) : Safe N n D Q := fun f hf => by
 obtain ⟨H, J, F, h1, h2⟩ := h f hf; exact ⟨H, J, F, hq H h1, h2⟩
theorem Rec.more {N M n : Nat} {d : List ByteArray} {H : Nat -> ByteArray} {J : JS} {F : List (List Wr)} (h : Rec N n d H J F) (hM : N <= M) (hb : M < 1000000) : Rec M n d H J F := ⟨h.len, h.whole, h.good.more hM hb, h.view⟩
structure Pre (N n : Nat) (J : JS) (D : DevS) (H : Nat -> ByteArray) (F : List (List Wr)) : Prop where
 dok : D.Ok
 live : D.dead = false
 len : D.disk.length = n
 good : Good N (gd D.disk) n J F
 pend : ∀ x ∈ D.pend, 62 <= x.1 /\ ∃ y ∈ natW F.flatten, y.1 = x.1
 view : ∀ b, 62 <= b -> b < n -> vN (natW F.flatten) (gd D.disk) b = H b
 read : ∀ b, 62 <= b -> b < n -> D.rdB b = H b
structure Sync (N n : Nat) (J : JS) (D : DevS) (H : Nat -> ByteArray) (F : List (List Wr)) : Prop where
 pre : Pre N n J D H F
 zero : gd D.disk (J.pos 0) = noughts
 older : Older (gd D.disk (1 - J.side)) J.e
section
variable {N n : Nat} {J : JS} {D : DevS} {H : Nat -> ByteArray} {F : List (List Wr)}
def Harm (J : JS) (F : List (List Wr)) (x : Nat × ByteArray) : Prop := (62 <= x.1 /\ ∃ y ∈ natW F.flatten, y.1 = x.1) \/ ∃ o, J.full < o /\ o < J.log /\ x.1 = 2 + (J.p + o) % J.log
theorem good_low (h : Good N (gd D.disk) n J F) {P : List (Nat × ByteArray)} (hp : ∀ x ∈ P, Harm J F x) : (∀ x ∈ P, x.1 ≠ J.side /\ x.1 ≠ 1 - J.side /\ 2 <= x.1) /\ (∀ x ∈ P, ∀ o, o <= J.full -> x.1 ≠ 2 + (J.p + o) % J.log) := by
 have hs := h.ok.si; have hr := h.room; have hl := h.lg
 refine ⟨fun x hx => ?_, fun x hx o ho => ?_⟩
 ·rcases hp x hx with ⟨h1, _⟩ | ⟨o, _, _, h1⟩
  ·omega
  ·omega
 ·rcases hp x hx with ⟨h1, _⟩ | ⟨o', ho1, ho2, h1⟩
  ·have := Nat.mod_lt (J.p + o) (show 0 < J.log by omega); omega
  ·have := mod_ne J.p J.log o' o ho2 (by omega) (by omega); omega
theorem harm_rec {f : Nat -> Nat} (hf : ∀ k, f k <= 256) (ok : D.Ok) (hn : D.disk.length = n) (h : Good N (gd D.disk) n J F) (hv : ∀ b, 62 <= b -> b < n -> vN (natW F.flatten) (gd D.disk) b = H b) (hp : ∀ x ∈ D.pend, Harm J F x) :
  Rec N n (laidTo f D.pend D.disk D.pend.length) H J F := by
 obtain ⟨h1, h2⟩ := good_low h hp
 refine ⟨by rw [laidTo_length]; exact hn, (ok.settled f (fun k _ => hf k)).whole, ?_, fun b hb hbn => ?_⟩
 ·exact h.change (laid_other _ _ (fun x hx => (h1 x hx).1)) (laid_other _ _ (fun x hx => (h1 x hx).2.1)) (fun o ho => laid_other _ _ (fun x hx => h2 x hx o ho))
 ·rw [<- hv b hb hbn]
  apply vN_hit
  by_cases hx : ∃ x ∈ natW F.flatten, x.1 = b
  ·exact .inl hx
  ·refine .inr (laid_other _ _ (fun x hxp e => ?_))
   rcases hp x hxp with ⟨_, y, hy, hye⟩ | ⟨o, _, _, h5⟩
   ·exact hx ⟨y, hy, hye.trans e⟩
   ·have := Nat.mod_lt (J.p + o) (show 0 < J.log by have := h.lg; omega)
    have := h.lg
    omega
theorem Pre.safe (h : Pre N n J D H F) : Safe N n D (· = H) := fun _ hf => ⟨H, J, F, rfl, harm_rec hf h.dok h.len h.good h.view (fun x hx => .inl (h.pend x hx))⟩
end
end Go.Proofs.YthambopnmhkeeaaGreat
/- A checkpoint, at whatever turn the power goes: in plain lists. -/
namespace Go.Proofs.YthambopnmhkeeaaGreat
open Go.RowKit
open Fr (bs fixL nmAt headB topL unp WrOk packL)
section
variable {N n : Nat} {J : JS} {D : DevS} {H : Nat -> ByteArray} {F : List (List Wr)}
theorem ck_zero' {D : DevS} {i : Int} (h1 : D.ck i = 0) : D.dead = false /\ 0 <= i /\ i < D.disk.length := by
 unfold DevS.ck at h1
 split at h1
 ·omega
 ·rename_i hd
  split at h1
  ·omega
  ·exact ⟨by simpa using hd, by omega, by omega⟩
theorem slot_inj {e s log p e' s' log' p' : Nat} (he : e < 18446744073709551616) (hs : s < 18446744073709551616) (hl : log < 4294967296) (hp : p < 4294967296)
  (he' : e' < 18446744073709551616) (hs' : s' < 18446744073709551616) (hl' : log' < 4294967296) (hp' : p' < 4294967296) (h : slotB e s log p = slotB e' s' log' p') : e = e' := by
 have h2 : halfL e s log p ++ halfL e s log p = halfL e' s' log' p' ++ halfL e' s' log' p' := Fr.bs_eq h
 have := congrArg (List.take 128) h2
 rw [List.take_left' (halfL_len ..), List.take_left' (halfL_len ..)] at this
 exact (half_inj he hs hl hp he' hs' hl' hp' this).1
theorem next_pos (ok : J.Ok n) : J.next'.pos 0 = J.pos 0 := by
 have hl := ok.l0
 show 2 + ((2 + (J.p + J.full + 0) % J.log) - 2 + 0 + 0) % J.log = 2 + (J.p + J.full + 0) % J.log
 rw [Nat.add_sub_cancel_left, Nat.add_zero, Nat.add_zero, Nat.mod_mod]
theorem good_next {g : Nat -> ByteArray} (h : Good N (gd D.disk) n J F) (hN : N + 1 < 1000000) (h0 : g J.side = gd D.disk J.side) (h1 : g (1 - J.side) = J.tgt) (hz : g (J.pos 0) = noughts) :
  Good (N + 1) g n J.next' [] /\ Older (g (1 - J.next'.side)) J.next'.e /\ g (J.next'.pos 0) = noughts := by
 have hb := h.bnd; have hl := h.lg; have hs := h.ok.si; have h4 := h.n4; have hpl := h.ok.pl; have hp0 := h.ok.pos_lt 0
 have hs64 := h.ok.s64
 have e1 : J.next'.e = J.e + 1 := Nat.mod_eq_of_lt (by omega)
 have es : 1 - J.next'.side = J.side := by show 1 - (1 - J.side) = J.side; omega
 have ez := next_pos h.ok
 have hside : g (1 - J.next'.side) = slotB J.e J.s J.log J.p := by rw [es, h0]; exact h.here
 have hold : Older (g (1 - J.next'.side)) J.next'.e := by
  rw [hside, e1]; exact older_slot _ _ _ _ h.ok.e64 hs64 (by omega) (by omega)
 have ok' := h.ok.next'
 have hp' := ok'.pos_lt 0
 refine ⟨⟨ok', h4, hl, hN, ⟨by rw [e1]; omega, by show J.next <= _; omega⟩, rfl, rfl, by show 0 + 1 <= J.log; omega, ?_, ?_, trivial, fun f hf => (by cases hf), ?_⟩, hold, by rw [ez]; exact hz⟩
 ·show g (1 - J.side) = slotB J.next'.e J.next J.log (J.pos 0 - 2)
  rw [e1, h1]; rfl
 ·refine ⟨g (1 - J.next'.side), 0, Nat.zero_le _, hold, by rw [layB_none], ?_⟩
  rw [hside]
  intro e
  have hll : J.next'.log = J.log := rfl
  rw [hll] at hp'
  have := slot_inj h.ok.e64 hs64 (by omega) (by omega) (by rw [e1]; omega) (by show J.next < _; omega) (by show J.log < _; omega) (by omega) e
  rw [e1] at this
  omega
 ·rw [ez, hz]; exact headB_noughts
theorem Good.swap {g g' : Nat -> ByteArray} (h : Good N g n J F) (h0 : g' J.side = g J.side) (h1 : g' (1 - J.side) = g (1 - J.side)) (hl : ∀ o, o < J.full -> g' (2 + (J.p + o) % J.log) = g (2 + (J.p + o) % J.log)) (hs : headB (g' (J.pos 0)).data.toList = false) : Good N g' n J F := by
 refine ⟨h.ok, h.n4, h.lg, h.big, h.bnd, h.next, h.full, h.room, h0.trans h.here, ?_, ?_, h.fine, hs⟩
 ·rw [h1]; exact h.other
 ·exact h.laid.congr (fun i _ hi => hl i (by rw [h.full]; omega))
theorem wr_ok (ok : D.Ok) (i : Int) (s : ByteArray) : (D.wr i s).2.Ok := by
 unfold DevS.wr
 split
 ·exact ok
 ·rename_i h1
  split
  ·exact ok
  ·rename_i h2
   split
   ·exact ok.tk
   ·have hk : D.ck i = 0 := by simpa using h1
    obtain ⟨_, h3, h4⟩ := ck_zero' hk
    have t := ok.tk
    refine ⟨t.some, t.few, t.whole, fun x hx => ?_, t.fuse0, t.fuse1⟩
    simp only [List.mem_append, List.mem_singleton] at hx
    show x.1 < D.tk.2.disk.length /\ _
    rw [DevS.tk_disk]
    rcases hx with hx | rfl
    ·exact ok.pends x hx
    ·exact ⟨by simp only; omega, by simpa using h2⟩
theorem wrs_ok (W : List Wr) : ∀ D : DevS, D.Ok -> (D.wrs W).2.Ok := by
 induction W with
 | nil => intro D ok; exact ok
 | cons x r ih =>
  intro D ok
  unfold DevS.wrs
  split
  ·exact wr_ok ok _ _
  ·exact ih _ (wr_ok ok _ _)
theorem fl_ok (ok : D.Ok) : D.fl.2.Ok := by
 unfold DevS.fl
 split
 ·exact ok
 ·split
  ·exact ok.tk
  ·have h := ok.settled (fun _ => 256) (fun _ _ => Nat.le_refl _)
   have t := ok.tk
   exact ⟨h.some, h.few, h.whole, fun x hx => (by cases hx), t.fuse0, t.fuse1⟩
theorem stl_ok {W : List Wr} (ok : D.Ok) (_hf : Fit D.disk.length W) : (D.stl W).2.Ok := by
 unfold DevS.stl
 split
 ·exact wrs_ok W D ok
 ·exact fl_ok (wrs_ok W D ok)
theorem list_take_one {α : Type} (x : α) (k : Nat) (h : k <= [x].length) : [x].take k = [] \/ [x].take k = [x] := by
 have : k = 0 \/ k = 1 := by simp at h; omega
 rcases this with rfl | rfl
 ·exact .inl rfl
 ·exact .inr rfl
theorem ckp_safe (h : Pre N n J D H F) (hN : N + 1 < 1000000) :
  ((J.ckp D).1 = 0 /\ Sync (N + 1) n (J.ckp D).2.2 (J.ckp D).2.1 H [] /\ (J.ckp D).2.2 = J.next' /\ (J.ckp D).2.1.pend = []) \/ ((J.ckp D).1 = 4 /\ (J.ckp D).2.1.dead = true /\ (J.ckp D).2.1.Ok /\ (J.ckp D).2.1.disk.length = n /\ Safe (N + 1) n (J.ckp D).2.1 (· = H)) := by
 have hg := h.good
 have hb := hg.bnd; have hl := hg.lg; have hs := hg.ok.si; have hp0 := hg.ok.pos_lt 0; have hl1 := hg.ok.l1
 have hpq : gd D.disk = gd D.disk := rfl
 have hmod : (J.e + 1) % 18446744073709551616 = J.e + 1 := Nat.mod_eq_of_lt (by omega)
 have hpend0 : ∀ x ∈ D.pend, x.1 ≠ J.pos 0 := fun x hx => by have := (h.pend x hx).1; omega
 have hfit1 : Fit D.disk.length [(((J.pos 0 : Nat) : Int), noughts)] := by
  intro x hx; simp at hx; subst hx; rw [h.len]; exact ⟨by simp, by simp only; omega, noughts_size⟩
 have hnat1 : natW [(((J.pos 0 : Nat) : Int), noughts)] = [(J.pos 0, noughts)] := by simp [natW]
 have hlow : ∀ x ∈ D.pend, ∀ b, b < 62 -> x.1 ≠ b := fun x hx b hb => by have := (h.pend x hx).1; omega
 have hoff : ∀ o, 2 + (J.p + o) % J.log < 62 := fun o => by have := Nat.mod_lt (J.p + o) (show 0 < J.log by omega); omega
 have hpos0 : J.pos 0 = 2 + (J.p + J.full) % J.log := rfl
 have hr := hg.room
 unfold JS.ckp
 simp only
 rcases stl_cases D _ h.live hfit1 with ⟨a1, a2, a3, a4⟩ | ⟨a1, a2, a3, k, hk, a4⟩
 ·rw [if_neg (by rw [a1]; simp)]
  have ok1 : (D.stl [(((J.pos 0 : Nat) : Int), noughts)]).2.Ok := stl_ok h.dok hfit1
  generalize hD1 : (D.stl [(((J.pos 0 : Nat) : Int), noughts)]).2 = D1 at *
  rw [hnat1] at a3
  have hpp : ∀ x ∈ D.pend ++ [(J.pos 0, noughts)], x.1 < D.disk.length /\ x.2.size = 256 := by
   intro x hx
   rcases List.mem_append.1 hx with hx | hx
   ·exact h.dok.pends x hx
   ·simp at hx; subst hx; exact ⟨by rw [h.len]; simp only; omega, noughts_size⟩
  have len1 : D1.disk.length = n := by rw [a3, laidTo_length]; exact h.len
  have g1 : ∀ b, b < n -> gd D1.disk b = vN (D.pend ++ [(J.pos 0, noughts)]) (gd D.disk) b := fun b hb => by
   rw [a3]; exact laid256 b (by rw [h.len]; exact hb) h.dok.whole hpp
  have g1z : gd D1.disk (J.pos 0) = noughts := by rw [g1 _ (by omega)]; exact vN_at (P := D.pend) (Q := []) (x := (J.pos 0, noughts)) (fun y hy => by cases hy)
  have g1l : ∀ b, b < 62 -> b ≠ J.pos 0 -> gd D1.disk b = gd D.disk b := fun b hb hne => by
   rw [g1 b (by omega)]
   exact vN_none (fun x hx => by
    rcases List.mem_append.1 hx with hx | hx
    ·exact hlow x hx b hb
    ·simp at hx; subst hx; exact fun e => hne e.symm)
  have g1h : ∀ b, 62 <= b -> b < n -> gd D1.disk b = H b := fun b hb hbn => by
   rw [g1 b hbn, vN_append, vN_none (P := [(J.pos 0, noughts)]) (fun x hx => by simp at hx; subst hx; simp only; omega), <- rdB_vN]
   exact h.read b hb hbn
  have good1 : Good N (gd D1.disk) n J F := by
   have := hg.swap (g' := gd D1.disk) (g1l _ (by omega) (by omega)) (g1l _ (by omega) (by omega)) (fun o ho => g1l _ (hoff o) (by rw [hpos0]; have := mod_ne J.p J.log o J.full (by omega) (by omega) (by omega); omega)) (by rw [g1z]; exact headB_noughts)
   exact this
  have view1 : ∀ b, 62 <= b -> b < n -> vN (natW F.flatten) (gd D1.disk) b = H b := fun b hb hbn => by
   by_cases hx : ∃ x ∈ natW F.flatten, x.1 = b
   ·rw [vN_hit (g' := gd D.disk) (.inl hx)]; exact h.view b hb hbn
   ·rw [vN_none (fun x hx' e => hx ⟨x, hx', e⟩)]; exact g1h b hb hbn
  have htg : slotB ((J.e + 1) % 18446744073709551616) J.next J.log (J.pos 0 - 2) = J.tgt := by rw [hmod]; rfl
  rw [htg]
  have htz : J.tgt.size = 256 := slotB_size _ _ _ _
  have hfit2 : Fit D1.disk.length [(((1 - J.side : Nat) : Int), J.tgt)] := by
   intro x hx; simp only [List.mem_singleton] at hx; subst hx; rw [len1]; exact ⟨by simp only; omega, by simp only; omega, htz⟩
  have hnat2 : natW [(((1 - J.side : Nat) : Int), J.tgt)] = [(1 - J.side, J.tgt)] := by simp [natW]
  rcases stl_cases D1 _ a2 hfit2 with ⟨b1, b2, b3, b4⟩ | ⟨b1, b2, b3, k, hk, b4⟩
  ·left
   rw [if_neg (by rw [b1]; simp)]
   have ok2 : (D1.stl [(((1 - J.side : Nat) : Int), J.tgt)]).2.Ok := stl_ok ok1 hfit2
   generalize hD2 : (D1.stl [(((1 - J.side : Nat) : Int), J.tgt)]).2 = D2 at *
   rw [hnat2, a4, List.nil_append] at b3
   have hpp2 : ∀ x ∈ [(1 - J.side, J.tgt)], x.1 < D1.disk.length /\ x.2.size = 256 := by
    intro x hx; simp at hx; subst hx; exact ⟨by rw [len1]; simp only; omega, htz⟩
   have len2 : D2.disk.length = n := by rw [b3, laidTo_length]; exact len1
   have g2 : ∀ b, b < n -> gd D2.disk b = vN [(1 - J.side, J.tgt)] (gd D1.disk) b := fun b hb => by
    rw [b3]; exact laid256 b (by rw [len1]; exact hb) ok1.whole hpp2
   have g2s : gd D2.disk (1 - J.side) = J.tgt := by rw [g2 _ (by omega)]; exact vN_at (P := []) (Q := []) (x := (1 - J.side, J.tgt)) (fun y hy => by cases hy)
   have g2o : ∀ b, b < n -> b ≠ 1 - J.side -> gd D2.disk b = gd D1.disk b := fun b hb hne => by
    rw [g2 b hb]; exact vN_none (fun x hx => by simp at hx; subst hx; exact fun e => hne e.symm)
   obtain ⟨q1, q2, q3⟩ := good_next (g := gd D2.disk) good1 hN (g2o _ (by omega) (by omega)) g2s (by rw [g2o _ (by omega) (by omega)]; exact g1z)
   refine ⟨rfl, ⟨⟨ok2, b2, len2, q1, (by rw [b4]; intro x hx; cases hx), fun b hb hbn => ?_, fun b hb hbn => ?_⟩, q3, q2⟩, rfl, b4⟩
   ·rw [vN_none (fun x hx => by simp [natW] at hx), g2o b hbn (by omega)]; exact g1h b hb hbn
   ·rw [rdB_none b (by rw [b4]; intro x hx; cases hx), g2o b hbn (by omega)]; exact g1h b hb hbn
  ·right
   rw [if_pos (by rw [b1]; simp)]
   have ok2 : (D1.stl [(((1 - J.side : Nat) : Int), J.tgt)]).2.Ok := stl_ok ok1 hfit2
   refine ⟨b1, b2, ok2, by rw [b3]; exact len1, fun f hf => ?_⟩
   have hsz := (ok2.settled f (fun k _ => hf k)).whole
   simp only at hsz
   rw [b3, b4, a4, List.nil_append] at hsz ⊢
   rcases list_take_one _ k hk with e | e
   ·rw [e] at hsz ⊢
    exact ⟨H, J, F, rfl, ⟨len1, ok1.whole, good1.more (by omega) hN, view1⟩⟩
   ·rw [e, hnat2] at hsz ⊢
    have g2s := laid_one (f := f) (P := []) (disk := D1.disk) (1 - J.side) J.tgt (fun y hy => by cases hy) (by omega)
    have g2o : ∀ b, b ≠ 1 - J.side -> gd (laidTo f ([] ++ [(1 - J.side, J.tgt)]) D1.disk ([] ++ [(1 - J.side, J.tgt)]).length) b = gd D1.disk b := fun b hne => laid_other b _ (fun x hx => by simp at hx; subst hx; exact fun e => hne e.symm)
    rw [List.nil_append] at g2s g2o
    have len2 : (laidTo f [(1 - J.side, J.tgt)] D1.disk [(1 - J.side, J.tgt)].length).length = n := by rw [laidTo_length]; exact len1
    generalize laidTo f [(1 - J.side, J.tgt)] D1.disk [(1 - J.side, J.tgt)].length = d2 at *
    by_cases hT : gd d2 (1 - J.side) = J.tgt
    ·obtain ⟨q1, q2, q3⟩ := good_next (g := gd d2) good1 hN (g2o _ (by omega)) hT (by rw [g2o _ (by omega)]; exact g1z)
     refine ⟨H, J.next', [], rfl, ⟨len2, hsz, q1, fun b hb hbn => ?_⟩⟩
     rw [vN_none (fun x hx => by simp [natW] at hx), g2o b (by omega)]; exact g1h b hb hbn
    ·obtain ⟨old, m, hm, ho, he, _⟩ := good1.other
     have hc : Good N (gd d2) n J F := by
      refine ⟨hg.ok, hg.n4, hg.lg, hg.big, hg.bnd, hg.next, hg.full, hg.room, by rw [g2o _ (by omega)]; exact good1.here, ?_, ?_, hg.fine, ?_⟩
      ·refine ⟨old, max m (f 0), by have := hf 0; omega, ho, ?_, hT⟩
       rw [g2s, he, layB_twice _ _ _ _ htz hm]; rfl
      ·exact good1.laid.congr (fun i _ _ => g2o _ (by omega))
      ·rw [g2o _ (by omega)]; exact good1.stop
     refine ⟨H, J, F, rfl, ⟨len2, hsz, hc.more (by omega) hN, fun b hb hbn => ?_⟩⟩
     rw [vN_hit (g' := gd D1.disk) (.inr (g2o b (by omega)))]; exact view1 b hb hbn
 ·right
  rw [if_pos (by rw [a1]; simp)]
  have ok1 : (D.stl [(((J.pos 0 : Nat) : Int), noughts)]).2.Ok := stl_ok h.dok hfit1
  refine ⟨a1, a2, ok1, by rw [a3]; exact h.len, fun f hf => ?_⟩
  have hsz := (ok1.settled f (fun k _ => hf k)).whole
  simp only at hsz
  rw [a3, a4] at hsz ⊢
  rcases list_take_one _ k hk with e | e
  ·rw [e] at hsz ⊢
   have en : natW ([] : List Wr) = [] := rfl
   rw [en, List.append_nil] at hsz ⊢
   obtain ⟨H', J', F', hH, hR⟩ := h.safe f hf
   exact ⟨H', J', F', hH, hR.more (by omega) hN⟩
  ·rw [e, hnat1] at hsz ⊢
   have g2s := laid_one (f := f) (P := D.pend) (disk := D.disk) (J.pos 0) noughts hpend0 (by rw [h.len]; omega)
   have g2l : ∀ b, b < 62 -> b ≠ J.pos 0 -> gd (laidTo f (D.pend ++ [(J.pos 0, noughts)]) D.disk (D.pend ++ [(J.pos 0, noughts)]).length) b = gd D.disk b := fun b hb hne => laid_other b _ (fun x hx => by
    rcases List.mem_append.1 hx with hx | hx
    ·exact hlow x hx b hb
    ·simp at hx; subst hx; exact fun e => hne e.symm)
   have g2h : ∀ b, 62 <= b -> (¬ ∃ x ∈ natW F.flatten, x.1 = b) -> gd (laidTo f (D.pend ++ [(J.pos 0, noughts)]) D.disk (D.pend ++ [(J.pos 0, noughts)]).length) b = gd D.disk b := fun b hb hno => laid_other b _ (fun x hx e => by
    rcases List.mem_append.1 hx with hx | hx
    ·obtain ⟨_, y, hy, hye⟩ := h.pend x hx
     exact hno ⟨y, hy, hye.trans e⟩
    ·simp at hx; subst hx; simp only at e; omega)
   have len2 : (laidTo f (D.pend ++ [(J.pos 0, noughts)]) D.disk (D.pend ++ [(J.pos 0, noughts)]).length).length = n := by rw [laidTo_length]; exact h.len
   generalize laidTo f (D.pend ++ [(J.pos 0, noughts)]) D.disk (D.pend ++ [(J.pos 0, noughts)]).length = d2 at *
   have hc : Good N (gd d2) n J F := hg.swap (g2l _ (by omega) (by omega)) (g2l _ (by omega) (by omega)) (fun o ho => g2l _ (hoff o) (by rw [hpos0]; have := mod_ne J.p J.log o J.full (by omega) (by omega) (by omega); omega)) (by rw [g2s]; exact torn_noughts _ _ hg.stop)
   refine ⟨H, J, F, rfl, ⟨len2, hsz, hc.more (by omega) hN, fun b hb hbn => ?_⟩⟩
   by_cases hx : ∃ x ∈ natW F.flatten, x.1 = b
   ·rw [vN_hit (g' := gd D.disk) (.inl hx)]; exact h.view b hb hbn
   ·rw [vN_hit (g' := gd D.disk) (.inr (g2h b hb hx))]; exact h.view b hb hbn
end
end Go.Proofs.YthambopnmhkeeaaGreat
/- A commit, and Open, at whatever turn the power goes: in plain lists. -/
namespace Go.Proofs.YthambopnmhkeeaaGreat
open Go.RowKit
open Fr (bs fixL nmAt headB topL unp WrOk packL)
section
variable {N n : Nat} {J : JS} {D : DevS} {H : Nat -> ByteArray} {F : List (List Wr)} {L : List Wr}
theorem vN_unique {P : List (Nat × ByteArray)} {g : Nat -> ByteArray} {x : Nat × ByteArray} (hx : x ∈ P) (hu : ∀ y ∈ P, y.1 = x.1 -> y = x) : vN P g x.1 = x.2 := by
 unfold vN
 cases hf : P.reverse.find? (fun y => y.1 == x.1) with
 | none =>
  rw [List.find?_eq_none] at hf
  have := hf x (List.mem_reverse.2 hx)
  simp at this
 | some y =>
  have h1 := List.mem_reverse.1 (List.mem_of_find?_eq_some hf)
  have h2 : y.1 = x.1 := by simpa using List.find?_some hf
  simp only [hu y h1 h2]
theorem dataP (J : JS) (ds : List ByteArray) : natW (J.dataW ds) = (List.range (ds.length + 1)).map fun j => (J.pos (j + 1), (ds ++ [noughts]).getD j ByteArray.empty) := by
 unfold natW JS.dataW
 rw [List.map_append, List.map_map, List.range_succ, List.map_append]
 congr 1
 ·apply List.map_congr_left
  intro i hi
  have : i < ds.length := List.mem_range.1 hi
  simp [List.getD, List.getElem?_append_left this]
 ·simp [List.getD]
theorem pos_off (J : JS) (j : Nat) : J.pos j = 2 + (J.p + (J.full + j)) % J.log := by unfold JS.pos; rw [Nat.add_assoc]
theorem dataP_harm (h : J.full + L.length + 2 <= J.log) (x : Nat × ByteArray) (hx : x ∈ natW (J.dataW (L.map (·.2)))) : ∃ o, J.full < o /\ o < J.log /\ x.1 = 2 + (J.p + o) % J.log := by
 rw [dataP] at hx
 obtain ⟨j, hj, rfl⟩ := List.mem_map.1 hx
 have hj' := List.mem_range.1 hj
 rw [List.length_map] at hj'
 exact ⟨J.full + (j + 1), by omega, by omega, pos_off J (j + 1)⟩
theorem pos_ne (ok : J.Ok n) (i j : Nat) (hi : J.full + i < J.log) (hj : J.full + j < J.log) (h : i ≠ j) : J.pos i ≠ J.pos j := by
 rw [pos_off, pos_off]
 have := mod_ne J.p J.log (J.full + i) (J.full + j) hi hj (by omega)
 omega
theorem dataP_at (ok : J.Ok n) (h : J.full + L.length + 2 <= J.log) (Q : List (Nat × ByteArray)) (g : Nat -> ByteArray) (j : Nat) (hj : j <= L.length) :
  vN (Q ++ natW (J.dataW (L.map (·.2)))) g (J.pos (j + 1)) = (L.map (·.2) ++ [noughts]).getD j ByteArray.empty := by
 rw [vN_append, dataP]
 refine vN_unique (x := (J.pos (j + 1), (L.map (·.2) ++ [noughts]).getD j ByteArray.empty)) (List.mem_map.2 ⟨j, List.mem_range.2 (by rw [List.length_map]; omega), rfl⟩) ?_
 intro y hy he
 obtain ⟨i, hi, rfl⟩ := List.mem_map.1 hy
 have hi' := List.mem_range.1 hi
 rw [List.length_map] at hi'
 by_cases e : i = j
 ·rw [e]
 ·exact absurd he (pos_ne ok (i + 1) (j + 1) (by omega) (by omega) (by omega))
def put (H : Nat -> ByteArray) (L : List Wr) : Nat -> ByteArray := vN (natW L) H
theorem good_grow {g g' : Nat -> ByteArray} (h : Good N g n J F) (hN : N + 1 < 1000000) (hc : J.chk n L = 0) (hr : J.full + L.length + 2 <= J.log) (hold : Older (g' (1 - J.side)) J.e) (h0 : g' J.side = g J.side)
  (hl : ∀ o, o < J.full -> g' (2 + (J.p + o) % J.log) = g (2 + (J.p + o) % J.log)) (ht : g' (J.pos 0) = bs (topL J.next L)) (hd : ∀ j (hj : j < L.length), g' (J.pos (j + 1)) = L[j].2) (hz : g' (J.pos (L.length + 1)) = noughts) :
  Good (N + 1) g' n (J.grow (L.length + 1)) (F ++ [L]) /\ g' ((J.grow (L.length + 1)).pos 0) = noughts := by
 have hb := h.bnd
 have en : (J.grow (L.length + 1)).next = J.next + 1 := Nat.mod_eq_of_lt (by omega)
 have ez : (J.grow (L.length + 1)).pos 0 = J.pos (L.length + 1) := by
  show 2 + (J.p + (J.full + (L.length + 1)) + 0) % J.log = _
  rw [Nat.add_zero, pos_off]
 have ok' := h.ok.grow (L.length + 1) (by omega)
 refine ⟨⟨ok', h.n4, h.lg, hN, ⟨by show J.e <= _; omega, by rw [en]; omega⟩, by rw [en, h.next, List.length_append]; rfl, by show J.full + (L.length + 1) = _; rw [fsz_append, h.full]; rfl, by show J.full + (L.length + 1) + 1 <= J.log; omega, h0.trans h.here, ?_, ?_, ?_, by rw [ez, hz]; exact headB_noughts⟩, by rw [ez]; exact hz⟩
 ·refine ⟨g' (1 - J.side), 0, Nat.zero_le _, hold, by rw [layB_none]; rfl, fun e => ?_⟩
  have hp' := ok'.pos_lt 0
  have hll : (J.grow (L.length + 1)).log = J.log := rfl
  rw [hll] at hp'
  have hlg := h.lg
  have h128 : (g' (1 - J.side)).data.toList.drop 128 = halfL (J.e + 1) (J.grow (L.length + 1)).next J.log ((J.grow (L.length + 1)).pos 0 - 2) := by
   have e' : g' (1 - J.side) = slotB (J.e + 1) (J.grow (L.length + 1)).next J.log ((J.grow (L.length + 1)).pos 0 - 2) := e
   rw [e']
   show (halfL _ _ _ _ ++ halfL _ _ _ _).drop 128 = _
   rw [List.drop_left' (halfL_len ..)]
  have := hold.2 _ _ _ _ (by omega) (by rw [en]; omega) (by omega) (by omega) h128
  omega
 ·have hl0 : LaidF g' J.log J.p 0 J.s F := h.laid.congr (fun i _ hi => hl i (by rw [h.full]; omega))
  refine hl0.snoc L ?_ ?_
  ·rw [Nat.zero_add, <- h.full, <- h.next]
   have := pos_off J 0
   rw [Nat.add_zero] at this
   rw [<- this]; exact ht
  ·intro j hj
   rw [Nat.zero_add, <- h.full, Nat.add_assoc, <- pos_off]
   exact hd j hj
 ·intro f hf
  rw [chk_log (J := J.grow (L.length + 1)) (K := J) rfl]
  rcases List.mem_append.1 hf with hf | hf
  ·exact h.fine f hf
  ·simp at hf; subst hf; exact hc
theorem flat_snoc (F : List (List Wr)) (L : List Wr) : natW (F ++ [L]).flatten = natW F.flatten ++ natW L := by
 rw [List.flatten_append, natW_append]; simp
theorem add_safe (h : Sync N n J D H F) (hN : N + 1 < 1000000) (hc : J.chk n L = 0) (hr : J.full + L.length + 2 <= J.log) (R : Int × DevS × JS) (hR : R = J.addF D (bs (topL J.next L)) (L.map (·.2))) :
  (R.1 = 4 /\ R.2.1.dead = true /\ R.2.1.Ok /\ R.2.1.disk.length = n /\ Safe (N + 1) n R.2.1 (fun X => X = H \/ X = put H L)) \/
  (R.1 = 0 /\ R.2.2 = J.grow (L.length + 1) /\ (((R.2.1.wrs L).1 = 0 /\ Sync (N + 1) n (J.grow (L.length + 1)) (R.2.1.wrs L).2 (put H L) (F ++ [L])) \/ ((R.2.1.wrs L).1 = 4 /\ (R.2.1.wrs L).2.dead = true /\ (R.2.1.wrs L).2.Ok /\ (R.2.1.wrs L).2.disk.length = n /\ Safe (N + 1) n (R.2.1.wrs L).2 (fun X => X = H \/ X = put H L)))) := by
 have hp := h.pre
 have hg := hp.good
 have hb := hg.bnd; have hlg := hg.lg; have hs := hg.ok.si; have hp0 := hg.ok.pos_lt 0; have hl1 := hg.ok.l1; have h4 := hg.n4
 obtain ⟨l1, l2, hw⟩ := (J.chk_ok n L).1 hc
 have hw' : ∀ x ∈ L, Fr.WrOk x := fun x hx => JS.wrok_frame h4 (hw x hx)
 have hhome : J.home = 62 := by unfold JS.home; omega
 have htop : (bs (topL J.next L)).size = 256 := by rw [Fr.bs_len, Fr.topL_len _ _ l2]
 have hnl : ∀ x ∈ natW L, 62 <= x.1 /\ x.1 < n /\ x.2.size = 256 := by
  intro x hx
  obtain ⟨y, hy, rfl⟩ := List.mem_map.1 hx
  obtain ⟨a, b, c⟩ := hw y hy
  rw [hhome] at a
  exact ⟨by simp only; omega, by simp only; omega, c⟩
 have hfitL : Fit n L := fun x hx => by obtain ⟨a, b, c⟩ := hw x hx; rw [hhome] at a; exact ⟨by omega, by omega, c⟩
 have hdat : ∀ x ∈ natW (J.dataW (L.map (·.2))), x.1 < n /\ x.2.size = 256 := by
  intro x hx
  obtain ⟨o, _, _, ho⟩ := dataP_harm hr x hx
  have hm := Nat.mod_lt (J.p + o) (show 0 < J.log by omega)
  refine ⟨by omega, ?_⟩
  rw [dataP] at hx
  obtain ⟨j, hj, rfl⟩ := List.mem_map.1 hx
  have hj' := List.mem_range.1 hj
  rw [List.length_map] at hj'
  by_cases hjl : j < L.length
  ·simp [List.getD, List.getElem?_append_left, hjl]
   exact (hw _ (List.getElem_mem hjl)).2.2
  ·have : j = L.length := by omega
   subst this
   simp [List.getD, noughts_size]
 have hfit1 : Fit D.disk.length (J.dataW (L.map (·.2))) := by
  intro x hx
  have h1 : (x.1.toNat, x.2) ∈ natW (J.dataW (L.map (·.2))) := List.mem_map.2 ⟨x, hx, rfl⟩
  have h2 := hdat _ h1
  have h3 : 0 <= x.1 := by
   unfold JS.dataW at hx
   rcases List.mem_append.1 hx with hx | hx
   ·obtain ⟨i, _, rfl⟩ := List.mem_map.1 hx; simp only; omega
   ·simp at hx; subst hx; simp only; omega
  rw [hp.len]
  exact ⟨h3, by have := h2.1; simp only at this; omega, h2.2⟩
 have hlow : ∀ x ∈ D.pend, ∀ b, b < 62 -> x.1 ≠ b := fun x hx b hb => by have := (hp.pend x hx).1; omega
 have hoff : ∀ o, 2 + (J.p + o) % J.log < 62 := fun o => by have := Nat.mod_lt (J.p + o) (show 0 < J.log by omega); omega
 subst hR
 unfold JS.addF
 simp only
 rcases stl_cases D _ hp.live hfit1 with ⟨a1, a2, a3, a4⟩ | ⟨a1, a2, a3, k, hk, a4⟩
 ·rw [if_neg (by rw [a1]; simp)]
  have ok1 : (D.stl (J.dataW (L.map (·.2)))).2.Ok := stl_ok hp.dok hfit1
  generalize hD1 : (D.stl (J.dataW (L.map (·.2)))).2 = D1 at *
  have hpp : ∀ x ∈ D.pend ++ natW (J.dataW (L.map (·.2))), x.1 < D.disk.length /\ x.2.size = 256 := by
   intro x hx
   rcases List.mem_append.1 hx with hx | hx
   ·exact hp.dok.pends x hx
   ·rw [hp.len]; exact hdat x hx
  have len1 : D1.disk.length = n := by rw [a3, laidTo_length]; exact hp.len
  have g1 : ∀ b, b < n -> gd D1.disk b = vN (D.pend ++ natW (J.dataW (L.map (·.2)))) (gd D.disk) b := fun b hb => by
   rw [a3]; exact laid256 b (by rw [hp.len]; exact hb) hp.dok.whole hpp
  have g1d : ∀ j, j <= L.length -> gd D1.disk (J.pos (j + 1)) = (L.map (·.2) ++ [noughts]).getD j ByteArray.empty := fun j hj => by
   have := hg.ok.pos_lt (j + 1)
   rw [g1 _ (by omega)]; exact dataP_at hg.ok hr D.pend _ j hj
  have g1l : ∀ b, b < 62 -> (∀ o, J.full < o -> o < J.log -> b ≠ 2 + (J.p + o) % J.log) -> gd D1.disk b = gd D.disk b := fun b hb hne => by
   rw [g1 b (by omega)]
   exact vN_none (fun x hx => by
    rcases List.mem_append.1 hx with hx | hx
    ·exact hlow x hx b hb
    ·obtain ⟨o, h1, h2, h3⟩ := dataP_harm hr x hx
     rw [h3]; exact fun e => hne o h1 h2 e.symm)
  have g1o : ∀ o, o <= J.full -> gd D1.disk (2 + (J.p + o) % J.log) = gd D.disk (2 + (J.p + o) % J.log) := fun o ho => g1l _ (hoff o) (fun o' h1 h2 => by
   have := mod_ne J.p J.log o o' (by omega) h2 (by omega); omega)
  have g1s : gd D1.disk J.side = gd D.disk J.side /\ gd D1.disk (1 - J.side) = gd D.disk (1 - J.side) := ⟨g1l _ (by omega) (fun o _ _ => by omega), g1l _ (by omega) (fun o _ _ => by omega)⟩
  have g1h : ∀ b, 62 <= b -> b < n -> gd D1.disk b = H b := fun b hb hbn => by
   rw [g1 b hbn, vN_append, vN_none (P := natW (J.dataW (L.map (·.2)))) (fun x hx => by obtain ⟨o, _, _, h3⟩ := dataP_harm hr x hx; have := hoff o; omega), <- rdB_vN]
   exact hp.read b hb hbn
  have good1 : Good N (gd D1.disk) n J F := hg.change g1s.1 g1s.2 g1o
  have hpz : J.pos 0 = 2 + (J.p + J.full) % J.log := rfl
  have zero1 : gd D1.disk (J.pos 0) = noughts := by rw [hpz, g1o _ (Nat.le_refl _), <- hpz]; exact h.zero
  have view1 : ∀ b, 62 <= b -> b < n -> vN (natW F.flatten) (gd D1.disk) b = H b := fun b hb hbn => by
   by_cases hx : ∃ x ∈ natW F.flatten, x.1 = b
   ·rw [vN_hit (g' := gd D.disk) (.inl hx)]; exact hp.view b hb hbn
   ·rw [vN_none (fun x hx' e => hx ⟨x, hx', e⟩)]; exact g1h b hb hbn
  have hfit2 : Fit D1.disk.length [(((J.pos 0 : Nat) : Int), bs (topL J.next L))] := by
   intro x hx; simp only [List.mem_singleton] at hx; subst hx; rw [len1]; exact ⟨by simp only; omega, by simp only; omega, htop⟩
  have hnat2 : natW [(((J.pos 0 : Nat) : Int), bs (topL J.next L))] = [(J.pos 0, bs (topL J.next L))] := by simp [natW]
  have whole : ∀ g' : Nat -> ByteArray, g' (J.pos 0) = bs (topL J.next L) -> (∀ b, b ≠ J.pos 0 -> b < n -> g' b = gd D1.disk b) ->
    (Good (N + 1) g' n (J.grow (L.length + 1)) (F ++ [L]) /\ g' ((J.grow (L.length + 1)).pos 0) = noughts) /\ ∀ b, 62 <= b -> b < n -> vN (natW (F ++ [L]).flatten) g' b = put H L b := by
   intro g' ht ho
   have hne : ∀ j, J.full + (j + 1) < J.log -> J.pos (j + 1) ≠ J.pos 0 := fun j hj => pos_ne hg.ok (j + 1) 0 hj (by omega) (by omega)
   have hpl : ∀ j, J.pos j < n := fun j => by have := hg.ok.pos_lt j; omega
   refine ⟨good_grow good1 hN hc hr ?_ (ho _ (by omega) (by omega)) (fun o ho' => ho _ (by rw [hpz]; have := mod_ne J.p J.log o J.full (by omega) (by omega) (by omega); omega) (by have := hoff o; omega)) ht (fun j hj => ?_) ?_, fun b hb hbn => ?_⟩
   ·rw [ho _ (by omega) (by omega), g1s.2]; exact h.older
   ·rw [ho _ (hne j (by omega)) (hpl _), g1d j (by omega)]
    simp [List.getD, List.getElem?_append_left, hj]
   ·rw [ho _ (hne L.length (by omega)) (hpl _), g1d L.length (Nat.le_refl _)]
    simp [List.getD]
   ·rw [flat_snoc, vN_append]
    unfold put
    apply vN_hit
    right
    rw [vN_hit (g' := gd D1.disk) (.inr (ho b (by omega) hbn))]
    exact view1 b hb hbn
  rcases stl_cases D1 _ a2 hfit2 with ⟨b1, b2, b3, b4⟩ | ⟨b1, b2, b3, k, hk, b4⟩
  ·right
   rw [if_neg (by rw [b1]; simp)]
   have ok2 : (D1.stl [(((J.pos 0 : Nat) : Int), bs (topL J.next L))]).2.Ok := stl_ok ok1 hfit2
   generalize hD2 : (D1.stl [(((J.pos 0 : Nat) : Int), bs (topL J.next L))]).2 = D2 at *
   rw [hnat2, a4, List.nil_append] at b3
   have hpp2 : ∀ x ∈ [(J.pos 0, bs (topL J.next L))], x.1 < D1.disk.length /\ x.2.size = 256 := by
    intro x hx; simp at hx; subst hx; exact ⟨by rw [len1]; simp only; omega, htop⟩
   have len2 : D2.disk.length = n := by rw [b3, laidTo_length]; exact len1
   have g2 : ∀ b, b < n -> gd D2.disk b = vN [(J.pos 0, bs (topL J.next L))] (gd D1.disk) b := fun b hb => by
    rw [b3]; exact laid256 b (by rw [len1]; exact hb) ok1.whole hpp2
   have g2s : gd D2.disk (J.pos 0) = bs (topL J.next L) := by rw [g2 _ (by omega)]; exact vN_at (P := []) (Q := []) (x := (J.pos 0, bs (topL J.next L))) (fun y hy => by cases hy)
   have g2o : ∀ b, b ≠ J.pos 0 -> b < n -> gd D2.disk b = gd D1.disk b := fun b hne hb => by
    rw [g2 b hb]; exact vN_none (fun x hx => by simp at hx; subst hx; exact fun e => hne e.symm)
   obtain ⟨⟨q1, q2⟩, q3⟩ := whole (gd D2.disk) g2s g2o
   refine ⟨rfl, by rw [List.length_map], ?_⟩
   obtain ⟨k, hk⟩ := wrs_cases L D2 b2 (by rw [len2]; exact hfitL)
   have ok3 := wrs_ok L D2 ok2
   have hpn : (D2.wrs L).2.pend = natW (L.take k) := by rw [hk.pend, b4, List.nil_append]
   have hin : ∀ x ∈ natW L, ∃ y ∈ natW (F ++ [L]).flatten, y.1 = x.1 := fun x hx => ⟨x, by rw [flat_snoc]; exact List.mem_append_right _ hx, rfl⟩
   have hsub : ∀ x ∈ (D2.wrs L).2.pend, 62 <= x.1 /\ ∃ y ∈ natW (F ++ [L]).flatten, y.1 = x.1 := by
    intro x hx
    rw [hpn] at hx
    have hx' : x ∈ natW L := by
     obtain ⟨y, hy, rfl⟩ := List.mem_map.1 hx
     exact List.mem_map.2 ⟨y, List.mem_of_mem_take hy, rfl⟩
    exact ⟨(hnl x hx').1, hin x hx'⟩
   rcases hk.how with ⟨c1, c2, c3⟩ | ⟨c1, c2⟩
   ·left
    refine ⟨c1, ⟨⟨ok3, c3, by rw [hk.disk]; exact len2, by rw [hk.disk]; exact q1, hsub, by rw [hk.disk]; exact q3, fun b hb hbn => ?_⟩, by rw [hk.disk]; exact q2, by rw [hk.disk]; show Older (gd D2.disk (1 - J.side)) J.e; rw [g2o _ (by omega) (by omega), g1s.2]; exact h.older⟩⟩
    rw [rdB_vN, hpn, c2, List.take_length, hk.disk]
    unfold put
    apply vN_hit
    right
    rw [g2o b (by omega) hbn]; exact g1h b hb hbn
   ·right
    refine ⟨c1, c2, ok3, by rw [hk.disk]; exact len2, fun f hf => ⟨put H L, _, _, .inr rfl, harm_rec hf ok3 (by rw [hk.disk]; exact len2) (by rw [hk.disk]; exact q1) (by rw [hk.disk]; exact q3) (fun x hx => .inl (hsub x hx))⟩⟩
  ·left
   rw [if_pos (by rw [b1]; simp)]
   have ok2 : (D1.stl [(((J.pos 0 : Nat) : Int), bs (topL J.next L))]).2.Ok := stl_ok ok1 hfit2
   refine ⟨b1, b2, ok2, by rw [b3]; exact len1, fun f hf => ?_⟩
   have hsz := (ok2.settled f (fun k _ => hf k)).whole
   simp only at hsz
   rw [b3, b4, a4, List.nil_append] at hsz ⊢
   rcases list_take_one _ k hk with e | e
   ·rw [e] at hsz ⊢
    exact ⟨H, J, F, .inl rfl, ⟨len1, ok1.whole, good1.more (by omega) hN, view1⟩⟩
   ·rw [e, hnat2] at hsz ⊢
    have g2s := laid_one (f := f) (P := []) (disk := D1.disk) (J.pos 0) (bs (topL J.next L)) (fun y hy => by cases hy) (by omega)
    have g2o : ∀ b, b ≠ J.pos 0 -> gd (laidTo f ([] ++ [(J.pos 0, bs (topL J.next L))]) D1.disk ([] ++ [(J.pos 0, bs (topL J.next L))]).length) b = gd D1.disk b := fun b hne => laid_other b _ (fun x hx => by simp at hx; subst hx; exact fun e => hne e.symm)
    rw [List.nil_append] at g2s g2o
    have len2 : (laidTo f [(J.pos 0, bs (topL J.next L))] D1.disk [(J.pos 0, bs (topL J.next L))].length).length = n := by rw [laidTo_length]; exact len1
    generalize laidTo f [(J.pos 0, bs (topL J.next L))] D1.disk [(J.pos 0, bs (topL J.next L))].length = d2 at *
    rw [zero1] at g2s
    by_cases hT : f ([] : List (Nat × ByteArray)).length = 256
    ·rw [hT, layB_all _ _ htop noughts_size] at g2s
     obtain ⟨⟨q1, _⟩, q3⟩ := whole (gd d2) g2s (fun b hne _ => g2o b hne)
     exact ⟨put H L, _, _, .inr rfl, ⟨len2, hsz, q1, q3⟩⟩
    ·have hlt : f ([] : List (Nat × ByteArray)).length < 256 := by have := hf ([] : List (Nat × ByteArray)).length; omega
     have hc2 : Good N (gd d2) n J F := good1.swap (g2o _ (by omega)) (g2o _ (by omega)) (fun o ho => g2o _ (by rw [hpz]; have := mod_ne J.p J.log o J.full (by omega) (by omega) (by omega); omega)) (by rw [g2s]; exact torn_head _ _ htop hlt)
     refine ⟨H, J, F, .inl rfl, ⟨len2, hsz, hc2.more (by omega) hN, fun b hb hbn => ?_⟩⟩
     rw [vN_hit (g' := gd D1.disk) (.inr (g2o b (by omega)))]; exact view1 b hb hbn
 ·left
  rw [if_pos (by rw [a1]; simp)]
  have ok1 : (D.stl (J.dataW (L.map (·.2)))).2.Ok := stl_ok hp.dok hfit1
  refine ⟨a1, a2, ok1, by rw [a3]; exact hp.len, fun f hf => ⟨H, J, F, .inl rfl, Rec.more (harm_rec hf ok1 (by rw [a3]; exact hp.len) (by rw [a3]; exact hg) (by rw [a3]; exact hp.view) ?_) (by omega) hN⟩⟩
  intro x hx
  rw [a4] at hx
  rcases List.mem_append.1 hx with hx | hx
  ·exact .inl (hp.pend x hx)
  ·have hx' : x ∈ natW (J.dataW (L.map (·.2))) := by
    obtain ⟨y, hy, rfl⟩ := List.mem_map.1 hx
    exact List.mem_map.2 ⟨y, List.mem_of_mem_take hy, rfl⟩
   exact .inr (dataP_harm hr x hx')
end
end Go.Proofs.YthambopnmhkeeaaGreat
/- Commit, Open and Format, whole, in plain lists. -/
namespace Go.Proofs.YthambopnmhkeeaaGreat
open Go.RowKit
open Fr (bs fixL nmAt headB topL unp WrOk packL)
section
variable {N M n : Nat} {J : JS} {D : DevS} {H : Nat -> ByteArray} {F : List (List Wr)} {L : List Wr}
theorem Sync.more (h : Sync N n J D H F) (hM : N <= M) (hb : M < 1000000) : Sync M n J D H F :=
 ⟨⟨h.pre.dok, h.pre.live, h.pre.len, h.pre.good.more hM hb, h.pre.pend, h.pre.view, h.pre.read⟩, h.zero, h.older⟩
theorem Safe.more {P : (Nat -> ByteArray) -> Prop} (h : Safe N n D P) (hM : N <= M) (hb : M < 1000000) : Safe M n D P := fun f hf => by
 obtain ⟨H, J, F, h1, h2⟩ := h f hf; exact ⟨H, J, F, h1, h2.more hM hb⟩
structure Gone (N n : Nat) (D : DevS) (P : (Nat -> ByteArray) -> Prop) : Prop where
 dead : D.dead = true
 dok : D.Ok
 len : D.disk.length = n
 safe : Safe N n D P
theorem commit_safe (h : Sync N n J D H F) (hN : N + 2 < 1000000) (hc : J.chk n L = 0) :
  ((J.commit D L).1 = 0 /\ ∃ F', Sync (N + 2) n (J.commit D L).2.2 (J.commit D L).2.1 (put H L) (F' ++ [L])) \/ ((J.commit D L).1 = 4 /\ Gone (N + 2) n (J.commit D L).2.1 (fun X => X = H \/ X = put H L)) := by
 have hlen := h.pre.len
 have hlg := h.pre.good.lg
 have hfu := h.pre.good.ok.fu
 obtain ⟨l1, l2, _⟩ := (J.chk_ok n L).1 hc
 have hleft : J.left = J.log - J.full := rfl
 unfold JS.commit
 rw [hlen, if_neg (by simpa using hc)]
 simp only
 by_cases hlt : J.left < L.length + 2
 ·rw [if_pos hlt]
  rcases ckp_safe h.pre (by omega) with ⟨a1, a2, a3, a4⟩ | ⟨a1, a2, a3, a4, a5⟩
  ·rw [if_neg (by rw [a1]; simp)]
   have hn0 : (J.ckp D).2.2.next = J.next := by rw [a3]; rfl
   have hf0 : (J.ckp D).2.2.full = 0 := by rw [a3]; rfl
   have hl0 : (J.ckp D).2.2.log = J.log := by rw [a3]; rfl
   have hc0 : (J.ckp D).2.2.chk n L = 0 := (chk_log hl0 n L).trans hc
   rcases add_safe (L := L) a2 (by omega) hc0 (by rw [hf0, hl0]; omega) _ rfl with ⟨b1, b2, b3, b4, b5⟩ | ⟨b1, b2, b3⟩
   ·rw [hn0] at b1 b2 b3 b4 b5
    rw [if_pos (by rw [b1]; simp)]
    exact .inr ⟨b1, b2, b3, b4, b5.more (by omega) hN⟩
   ·rw [hn0] at b1 b2 b3
    rw [if_neg (by rw [b1]; simp)]
    rw [b2]
    rcases b3 with ⟨c1, c2⟩ | ⟨c1, c2, c3, c4, c5⟩
    ·exact .inl ⟨c1, _, c2.more (by omega) hN⟩
    ·exact .inr ⟨c1, c2, c3, c4, c5.more (by omega) hN⟩
  ·rw [if_pos (by rw [a1]; simp)]
   exact .inr ⟨a1, a2, a3, a4, (a5.mono (fun X hX => .inl hX)).more (by omega) hN⟩
 ·rw [if_neg hlt, if_neg (by simp)]
  rcases add_safe (L := L) h (by omega) hc (by omega) _ rfl with ⟨b1, b2, b3, b4, b5⟩ | ⟨b1, b2, b3⟩
  ·rw [if_pos (by rw [b1]; simp)]
   exact .inr ⟨b1, b2, b3, b4, b5.more (by omega) hN⟩
  ·rw [if_neg (by rw [b1]; simp)]
   rw [b2]
   rcases b3 with ⟨c1, c2⟩ | ⟨c1, c2, c3, c4, c5⟩
   ·exact .inl ⟨c1, _, c2.more (by omega) hN⟩
   ·exact .inr ⟨c1, c2, c3, c4, c5.more (by omega) hN⟩
theorem open_pre (h : Rec N n D.disk H J F) (hN : N + 1 < 1000000) (ok : D.Ok) (hde : D.dead = false) (hp : ∀ x ∈ D.pend, 62 <= x.1 /\ ∃ y ∈ natW F.flatten, y.1 = x.1) :
  (D.opn.1 = 0 /\ D.opn.2.2 = some J.next' /\ Sync (N + 1) n J.next' D.opn.2.1 H [] /\ D.opn.2.1.pend = []) \/ (D.opn.1 = 4 /\ D.opn.2.2 = none /\ Gone (N + 1) n D.opn.2.1 (· = H)) := by
 have hg := h.good
 have hb := hg.bnd; have hr := hg.room; have hfull := hg.full; have hnx := hg.next; have hlg := hg.lg
 have hhome : J.home = 62 := by unfold JS.home; omega
 have hfit : Fit D.disk.length F.flatten := by
  intro x hx
  obtain ⟨f, hf, hxf⟩ := List.mem_flatten.1 hx
  obtain ⟨a, b, c⟩ := ((J.chk_ok n f).1 (hg.fine f hf)).2.2 x hxf
  rw [hhome] at a
  rw [h.len]
  exact ⟨by omega, by omega, c⟩
 have hfl52 : ∀ x ∈ natW F.flatten, 62 <= x.1 := by
  intro x hx
  obtain ⟨y, hy, rfl⟩ := List.mem_map.1 hx
  obtain ⟨f, hf, hxf⟩ := List.mem_flatten.1 hy
  obtain ⟨a, b, c⟩ := ((J.chk_ok n f).1 (hg.fine f hf)).2.2 y hxf
  rw [hhome] at a
  simp only; omega
 have hFl : F.length <= fsz F := by
  clear hfit hfl52 hfull hnx hr hg h hp
  induction F with
  | nil => exact Nat.le_refl _
  | cons f F ih => simp only [List.length_cons, fsz]; omega
 obtain ⟨J', h1, h2⟩ := redo_laid (g := gd D.disk) hg.n4 F J.fresh D (J.log + 1) h.len hde ⟨hg.ok.l0, hg.ok.l1, hg.ok.pl, hg.ok.si, Nat.zero_le _, hg.ok.e64, hg.ok.s64, hg.ok.s64⟩ (fun _ _ => rfl) (fun x hx => by have := (hp x hx).1; show J.home <= _; omega) hg.laid
  (fun f hf => (chk_log (J := J.fresh) (K := J) rfl n f).trans (hg.fine f hf)) (by show 0 + fsz F <= J.log; omega) (by show J.s + F.length < _; omega) (by
   show headB (gd D.disk (2 + (J.p + (0 + fsz F)) % J.log)).data.toList = false
   rw [Nat.zero_add, <- hfull]
   exact hg.stop) (by omega)
 have hredo : J.fresh.redo D = ((D.wrs F.flatten).1, (D.wrs F.flatten).2, J') := h1
 have hfind := find_pend hg h.len (fun x hx => by have := (hp x hx).1; omega)
 obtain ⟨k, hk⟩ := wrs_cases F.flatten D hde hfit
 have okw := wrs_ok F.flatten D ok
 have hpn : (D.wrs F.flatten).2.pend = D.pend ++ natW (F.flatten.take k) := hk.pend
 have hsub : ∀ x ∈ (D.wrs F.flatten).2.pend, 62 <= x.1 /\ ∃ y ∈ natW F.flatten, y.1 = x.1 := by
  intro x hx
  rw [hpn] at hx
  rcases List.mem_append.1 hx with hx | hx
  ·exact hp x hx
  have hx' : x ∈ natW F.flatten := by
   obtain ⟨y, hy, rfl⟩ := List.mem_map.1 hx
   exact List.mem_map.2 ⟨y, List.mem_of_mem_take hy, rfl⟩
  exact ⟨hfl52 x hx', x, hx', rfl⟩
 have hopn : D.opn = if (D.wrs F.flatten).1 ≠ 0 then ((D.wrs F.flatten).1, (D.wrs F.flatten).2, none) else if (J'.ckp (D.wrs F.flatten).2).1 ≠ 0 then ((J'.ckp (D.wrs F.flatten).2).1, (J'.ckp (D.wrs F.flatten).2).2.1, none) else (0, (J'.ckp (D.wrs F.flatten).2).2.1, some (J'.ckp (D.wrs F.flatten).2).2.2) := by
  unfold DevS.opn
  rw [hde, hfind]
  simp only [hredo]
  rfl
 rw [hopn]
 rcases hk.how with ⟨c1, c2, c3⟩ | ⟨c1, c2⟩
 ·rw [if_neg (by rw [c1]; simp)]
  have hJ' : J' = J := by
   rw [h2 c1]
   show ({ J with next := J.s + F.length, full := 0 + fsz F } : JS) = J
   rw [<- hnx, Nat.zero_add, <- hfull]
  rw [hJ']
  have pre : Pre N n J (D.wrs F.flatten).2 H F := by
   refine ⟨okw, c3, by rw [hk.disk]; exact h.len, by rw [hk.disk]; exact hg, hsub, by rw [hk.disk]; exact h.view, fun b hb hbn => ?_⟩
   rw [rdB_vN, hpn, c2, List.take_length, hk.disk, vN_append, <- h.view b hb hbn]
   refine vN_hit ?_
   by_cases e : ∃ x ∈ D.pend, x.1 = b
   ·obtain ⟨x, hx, rfl⟩ := e
    exact .inl (hp x hx).2
   ·exact .inr (vN_none fun x hx he => e ⟨x, hx, he⟩)
  rcases ckp_safe pre hN with ⟨a1, a2, a3, a4⟩ | ⟨a1, a2, a3, a4, a5⟩
  ·left
   rw [if_neg (by rw [a1]; simp)]
   exact ⟨rfl, by rw [a3], by rw [a3] at a2; exact a2, a4⟩
  ·right
   rw [if_pos (by rw [a1]; simp)]
   exact ⟨a1, rfl, a2, a3, a4, a5⟩
 ·right
  rw [if_pos (by rw [c1]; simp)]
  exact ⟨c1, rfl, c2, okw, by rw [hk.disk]; exact h.len, fun f hf => ⟨H, J, F, rfl, Rec.more (harm_rec hf okw (by rw [hk.disk]; exact h.len) (by rw [hk.disk]; exact hg) (by rw [hk.disk]; exact h.view) (fun x hx => .inl (hsub x hx))) (by omega) hN⟩⟩
theorem open_safe (h : Rec N n D.disk H J F) (hN : N + 1 < 1000000) (ok : D.Ok) (hde : D.dead = false) (hp : D.pend = []) :
  (D.opn.1 = 0 /\ D.opn.2.2 = some J.next' /\ Sync (N + 1) n J.next' D.opn.2.1 H [] /\ D.opn.2.1.pend = []) \/ (D.opn.1 = 4 /\ D.opn.2.2 = none /\ Gone (N + 1) n D.opn.2.1 (· = H)) :=
 open_pre h hN ok hde (by rw [hp]; intro x hx; cases hx)
def NF (D D' : DevS) : Prop := D'.fused = false /\ D'.dead = D.dead
theorem nf_tk (h : D.fused = false) : D.tk = (true, D) := by unfold DevS.tk; rw [if_pos h]
theorem nf_wr (h : D.fused = false) (i : Int) (s : ByteArray) : NF D (D.wr i s).2 := by
 unfold DevS.wr
 rw [nf_tk h]
 split
 ·exact ⟨h, rfl⟩
 ·split
  ·exact ⟨h, rfl⟩
  ·split
   ·exact ⟨h, rfl⟩
   ·exact ⟨h, rfl⟩
theorem nf_wrs (W : List Wr) : ∀ D : DevS, D.fused = false -> NF D (D.wrs W).2 := by
 induction W with
 | nil => intro D h; exact ⟨h, rfl⟩
 | cons x r ih =>
  intro D h
  have h1 := nf_wr h x.1 x.2
  unfold DevS.wrs
  split
  ·exact h1
  ·have h2 := ih _ h1.1
   exact ⟨h2.1, h2.2.trans h1.2⟩
theorem nf_fl (h : D.fused = false) : NF D D.fl.2 := by
 unfold DevS.fl
 rw [nf_tk h]
 split
 ·exact ⟨h, rfl⟩
 ·split
  ·exact ⟨h, rfl⟩
  ·exact ⟨h, rfl⟩
theorem nf_stl (W : List Wr) (h : D.fused = false) : NF D (D.stl W).2 := by
 have h1 := nf_wrs W D h
 unfold DevS.stl
 split
 ·exact h1
 ·have h2 := nf_fl h1.1
  exact ⟨h2.1, h2.2.trans h1.2⟩
theorem nf_ckp (J : JS) (h : D.fused = false) : NF D (J.ckp D).2.1 := by
 have h1 := nf_stl [(((J.pos 0 : Nat) : Int), noughts)] h
 unfold JS.ckp
 simp only
 split
 ·exact h1
 ·have h2 := nf_stl [(((1 - J.side : Nat) : Int), slotB ((J.e + 1) % 18446744073709551616) J.next J.log (J.pos 0 - 2))] h1.1
  split
  ·exact ⟨h2.1, h2.2.trans h1.2⟩
  ·exact ⟨h2.1, h2.2.trans h1.2⟩
theorem nf_redo (m : Nat) : ∀ (J : JS) (D : DevS), D.fused = false -> NF D (J.redoN D m).2.1 := by
 induction m with
 | zero => intro J D h; exact ⟨h, rfl⟩
 | succ m ih =>
  intro J D h
  cases hfr : J.frameOf D with
  | none => rw [redoN_none m hfr]; exact ⟨h, rfl⟩
  | some ws =>
   rw [redoN_some m hfr]
   have h1 := nf_wrs ws D h
   split
   ·exact h1
   ·have h2 := ih (J.grow (ws.length + 1)) _ h1.1
    exact ⟨h2.1, h2.2.trans h1.2⟩
theorem nf_opn (h : D.fused = false) : NF D D.opn.2.1 := by
 unfold DevS.opn
 split
 ·exact ⟨h, rfl⟩
 ·split
  ·exact ⟨h, rfl⟩
  ·rename_i J _
   have h1 := nf_redo (J.log + 1) J D h
   simp only
   split
   ·exact h1
   ·have h2 := nf_ckp (J.redo D).2.2 h1.1
    split
    ·exact ⟨h2.1, h2.2.trans h1.2⟩
    ·exact ⟨h2.1, h2.2.trans h1.2⟩
theorem open_sure (h : Rec N n D.disk H J F) (hN : N + 1 < 1000000) (ok : D.Ok) (hde : D.dead = false) (hp : D.pend = []) (hf : D.fused = false) :
  D.opn.1 = 0 /\ D.opn.2.2 = some J.next' /\ Sync (N + 1) n J.next' D.opn.2.1 H [] /\ D.opn.2.1.pend = [] := by
 rcases open_safe h hN ok hde hp with h1 | ⟨_, _, h1⟩
 ·exact h1
 ·have := (nf_opn hf).2
  rw [h1.dead, hde] at this
  cases this
theorem open_live (h : Sync N n J D H F) (hN : N + 1 < 1000000) (hf : D.fused = false) :
  D.opn.1 = 0 /\ D.opn.2.2 = some J.next' /\ Sync (N + 1) n J.next' D.opn.2.1 H [] /\ D.opn.2.1.pend = [] /\ D.opn.2.1.fused = false := by
 rcases open_pre (D := D) ⟨h.pre.len, h.pre.dok.whole, h.pre.good, h.pre.view⟩ hN h.pre.dok h.pre.live h.pre.pend with ⟨a, b, c, d⟩ | ⟨_, _, h1⟩
 ·exact ⟨a, b, c, d, (nf_opn hf).1⟩
 ·have := (nf_opn hf).2
  rw [h1.dead, h.pre.live] at this
  cases this
def J0 : JS := ⟨1, 1, 60, 0, 0, 1, 0⟩
theorem fmt_rec (n : Nat) (h1 : 63 <= n) (h2 : n <= 4096) : ((DevS.made n).fmt 60).1 = 0 /\ ((DevS.made n).fmt 60).2.pend = [] /\ ((DevS.made n).fmt 60).2.dead = false /\ ((DevS.made n).fmt 60).2.fused = false /\ ((DevS.made n).fmt 60).2.Ok /\
  Rec 1 n ((DevS.made n).fmt 60).2.disk (fun _ => noughts) J0 [] := by
 have hok := DevS.made_ok n (by omega) h2
 have hln : (DevS.made n).disk.length = n := by simp [DevS.made]
 have hfm : (DevS.made n).fmt 60 = (DevS.made n).stl (fmtL 60) := by
  unfold DevS.fmt; rw [hln, if_neg (by omega)]; rfl
 have hmem : ∀ x ∈ natW (fmtL 60), x = (0, slotB 1 1 60 0) \/ (x.2 = noughts /\ 1 <= x.1 /\ x.1 < 62) := by
  intro x hx
  unfold natW fmtL at hx
  rw [List.map_append] at hx
  rcases List.mem_append.1 hx with hx | hx
  ·obtain ⟨y, hy, rfl⟩ := List.mem_map.1 hx
   obtain ⟨i, hi, rfl⟩ := List.mem_map.1 hy
   have := List.mem_range.1 hi
   exact .inr ⟨rfl, by simp only; omega, by simp only; omega⟩
  ·simp at hx; subst hx; exact .inl rfl
 have hfit : Fit (DevS.made n).disk.length (fmtL 60) := by
  intro x hx
  rw [hln]
  unfold fmtL at hx
  rcases List.mem_append.1 hx with hx | hx
  ·obtain ⟨i, hi, rfl⟩ := List.mem_map.1 hx
   have := List.mem_range.1 hi
   exact ⟨by simp only; omega, by simp only; omega, noughts_size⟩
  ·simp only [List.mem_singleton] at hx; subst hx; exact ⟨by simp, by simp only; omega, slotB_size _ _ _ _⟩
 rw [hfm]
 have hnf := nf_stl (D := DevS.made n) (fmtL 60) rfl
 have ok1 := stl_ok hok hfit
 rcases stl_cases (DevS.made n) (fmtL 60) rfl hfit with ⟨a1, a2, a3, a4⟩ | ⟨a1, a2, _⟩
 ·have hp0 : (DevS.made n).pend = [] := rfl
  rw [hp0, List.nil_append] at a3
  have hpp : ∀ x ∈ natW (fmtL 60), x.1 < (DevS.made n).disk.length /\ x.2.size = 256 := by
   intro x hx
   rw [hln]
   rcases hmem x hx with rfl | ⟨h1, h2, h3⟩
   ·exact ⟨by simp only; omega, slotB_size _ _ _ _⟩
   ·exact ⟨by omega, by rw [h1]; exact noughts_size⟩
  have g1 : ∀ b, b < n -> gd ((DevS.made n).stl (fmtL 60)).2.disk b = vN (natW (fmtL 60)) (gd (DevS.made n).disk) b := fun b hb => by
   rw [a3]; exact laid256 b (by rw [hln]; exact hb) hok.whole hpp
  have gz : ∀ b, b < n -> gd (DevS.made n).disk b = noughts := fun b hb => by
   unfold gd DevS.made; simp [List.getD, hb]
  have gs : gd ((DevS.made n).stl (fmtL 60)).2.disk 0 = slotB 1 1 60 0 := by
   rw [g1 0 (by omega)]
   unfold fmtL
   rw [natW_append]
   exact vN_at (x := (0, slotB 1 1 60 0)) (Q := []) (fun y hy => by cases hy)
  have go : ∀ b, 1 <= b -> b < n -> gd ((DevS.made n).stl (fmtL 60)).2.disk b = noughts := fun b h1 hb => by
   rw [g1 b hb]
   unfold vN
   cases hf : (natW (fmtL 60)).reverse.find? (fun x => x.1 == b) with
   | none => exact gz b hb
   | some x =>
    have hx := List.mem_reverse.1 (List.mem_of_find?_eq_some hf)
    have he : x.1 = b := by simpa using List.find?_some hf
    rcases hmem x hx with rfl | ⟨h2, _⟩
    ·simp only at he; omega
    ·exact h2
  refine ⟨a1, a4, a2, hnf.1, ok1, ⟨by rw [a3, laidTo_length, hln], ok1.whole, ?_, fun b hb hbn => ?_⟩⟩
  ·refine ⟨⟨by decide, by show 60 + 3 <= n; omega, by decide, by decide, by decide, by decide, by decide, by decide⟩, h2, rfl, by omega, ⟨by decide, by decide⟩, rfl, rfl, by decide, gs, ?_, trivial, fun f hf => (by cases hf), ?_⟩
   ·have e1 : gd ((DevS.made n).stl (fmtL 60)).2.disk (1 - J0.side) = noughts := go 1 (by omega) (by omega)
    refine ⟨noughts, 0, by omega, older_noughts _, by rw [layB_none]; exact e1, fun e => ?_⟩
    rw [e1] at e
    have := congrArg (fun b : ByteArray => b.data.toList.getD 0 0) e
    simp only [noughts_at] at this
    have h67 : (JS.tgt J0).data.toList.getD 0 0 = 67 := rfl
    rw [h67] at this
    cases this
   ·have e2 : gd ((DevS.made n).stl (fmtL 60)).2.disk (J0.pos 0) = noughts := go 2 (by omega) (by omega)
    rw [e2]; exact headB_noughts
  ·rw [vN_none (fun x hx => by simp [natW] at hx)]; exact go b (by omega) hbn
 ·have := hnf.2
  rw [a2] at this
  cases this
end
end Go.Proofs.YthambopnmhkeeaaGreat
/- What begin answers: a device with a journal; the world of the statements. -/
namespace Go.Proofs.YthambopnmhkeeaaGreat
open Go.RowKit
open Fr (SlW)
def Db (n : Nat) : DevS := ((DevS.made n).fmt 60).2.opn.2.1
def Jb : JS := J0.next'
theorem begin_sync (n : Nat) (h1 : 63 <= n) (h2 : n <= 4096) : ((DevS.made n).fmt 60).2.opn = (0, Db n, some Jb) /\ Sync 2 n Jb (Db n) (fun _ => noughts) [] /\ (Db n).pend = [] /\ (Db n).fused = false := by
 obtain ⟨a1, a2, a3, a4, a5, a6⟩ := fmt_rec n h1 h2
 obtain ⟨b1, b2, b3, b4⟩ := open_sure a6 (by omega) a5 a3 a2 a4
 refine ⟨Prod.ext b1 (Prod.ext rfl b2), b3, b4, (nf_opn a4).1⟩
section
variable {w0 w w' : World} {wb a p : Nat} {J J' : JS} {D D' : DevS}
end
end Go.Proofs.YthambopnmhkeeaaGreat
/- What a commit does, in plain lists: without a fuse the power stays; its length; a bad one changes nothing. -/
namespace Go.Proofs.YthambopnmhkeeaaGreat
open Go.RowKit
open Fr (SlW)
section
variable {D : DevS} {J : JS} {L : List Wr} {n N : Nat} {H : Nat -> ByteArray} {F : List (List Wr)}
theorem nf_addF (J : JS) (top : ByteArray) (ds : List ByteArray) (h : D.fused = false) : NF D (J.addF D top ds).2.1 := by
 have h1 := nf_stl (J.dataW ds) h
 unfold JS.addF
 simp only
 split
 ·exact h1
 ·have h2 := nf_stl [(((J.pos 0 : Nat) : Int), top)] h1.1
  split
  ·exact ⟨h2.1, h2.2.trans h1.2⟩
  ·exact ⟨h2.1, h2.2.trans h1.2⟩
def comR (J : JS) (L : List Wr) (c : Int × DevS × JS) : Int × DevS × JS :=
 if c.1 ≠ 0 then c else if (c.2.2.addF c.2.1 (Fr.bs (Fr.topL J.next L)) (L.map (·.2))).1 ≠ 0 then c.2.2.addF c.2.1 (Fr.bs (Fr.topL J.next L)) (L.map (·.2)) else
  (((c.2.2.addF c.2.1 (Fr.bs (Fr.topL J.next L)) (L.map (·.2))).2.1.wrs L).1, ((c.2.2.addF c.2.1 (Fr.bs (Fr.topL J.next L)) (L.map (·.2))).2.1.wrs L).2, (c.2.2.addF c.2.1 (Fr.bs (Fr.topL J.next L)) (L.map (·.2))).2.2)
theorem commit_eq (J : JS) (D : DevS) (L : List Wr) : J.commit D L = if J.chk D.disk.length L ≠ 0 then ((J.chk D.disk.length L : Int), D, J) else comR J L (if J.left < L.length + 2 then J.ckp D else (0, D, J)) := rfl
theorem nf_comR {c : Int × DevS × JS} (hc : NF D c.2.1) : NF D (comR J L c).2.1 := by
 unfold comR
 split
 ·exact hc
 ·have h2 := nf_addF c.2.2 (Fr.bs (Fr.topL J.next L)) (L.map (·.2)) hc.1
  split
  ·exact ⟨h2.1, h2.2.trans hc.2⟩
  ·have h3 := nf_wrs L _ h2.1
   exact ⟨h3.1, h3.2.trans (h2.2.trans hc.2)⟩
theorem nf_commit (J : JS) (L : List Wr) (h : D.fused = false) : NF D (J.commit D L).2.1 := by
 rw [commit_eq]
 by_cases hk : J.chk D.disk.length L ≠ 0
 ·rw [if_pos hk]; exact ⟨h, rfl⟩
 ·rw [if_neg hk]
  apply nf_comR
  by_cases hl : J.left < L.length + 2
  ·rw [if_pos hl]; exact nf_ckp J h
  ·rw [if_neg hl]; exact ⟨h, rfl⟩
theorem comR_J {c : Int × DevS × JS} (h : (comR J L c).1 = 0) : c.1 = 0 /\ (comR J L c).2.2 = c.2.2.grow (L.length + 1) := by
 unfold comR at *
 by_cases h1 : c.1 ≠ 0
 ·rw [if_pos h1] at h; exact absurd h h1
 ·rw [if_neg h1] at h ⊢
  by_cases h2 : (c.2.2.addF c.2.1 (Fr.bs (Fr.topL J.next L)) (L.map (·.2))).1 ≠ 0
  ·rw [if_pos h2] at h; exact absurd h h2
  ·rw [if_neg h2]
   refine ⟨by simpa using h1, ?_⟩
   show (c.2.2.addF c.2.1 (Fr.bs (Fr.topL J.next L)) (L.map (·.2))).2.2 = _
   rw [JS.addF_good (by simpa using h2), List.length_map]
theorem commit_J (h : (J.commit D L).1 = 0) : (J.commit D L).2.2 = (if J.left < L.length + 2 then J.next' else J).grow (L.length + 1) /\ J.chk D.disk.length L = 0 := by
 rw [commit_eq] at *
 by_cases hk : J.chk D.disk.length L ≠ 0
 ·rw [if_pos hk] at h
  have : (J.chk D.disk.length L : Int) = 0 := h
  omega
 ·rw [if_neg hk] at h ⊢
  obtain ⟨h1, h2⟩ := comR_J h
  refine ⟨?_, by simpa using hk⟩
  rw [h2]
  by_cases hl : J.left < L.length + 2
  ·rw [if_pos hl] at h1
   rw [if_pos hl, if_pos hl, JS.ckp_good h1]
  ·rw [if_neg hl, if_neg hl]
theorem commit_sure (h : Sync N n J D H F) (hN : N + 2 < 1000000) (hc : J.chk n L = 0) (hf : D.fused = false) :
  (J.commit D L).1 = 0 /\ (∃ F', Sync (N + 2) n (J.commit D L).2.2 (J.commit D L).2.1 (put H L) (F' ++ [L])) /\ (J.commit D L).2.2 = (if J.left < L.length + 2 then J.next' else J).grow (L.length + 1) /\ (J.commit D L).2.1.fused = false := by
 rcases commit_safe h hN hc with ⟨a, b⟩ | ⟨a, b⟩
 ·exact ⟨a, b, (commit_J a).1, (nf_commit J L hf).1⟩
 ·have := (nf_commit J L hf).2
  rw [b.dead, h.pre.live] at this
  cases this
end
theorem comR_len {J : JS} {L : List Wr} {c : Int × DevS × JS} {m : Nat} (hc : c.2.1.pend.length <= m) : (comR J L c).2.1.pend.length <= m + 2 * L.length + 2 := by
 unfold comR
 have h1 := JS.addF_len (J := c.2.2) (D := c.2.1) (top := Fr.bs (Fr.topL J.next L)) (ds := L.map (·.2))
 rw [List.length_map] at h1
 split
 ·omega
 ·split
  ·omega
  ·have h2 := (c.2.2.addF c.2.1 (Fr.bs (Fr.topL J.next L)) (L.map (·.2))).2.1.wrs_len L
   simp only
   omega
theorem commit_len (J : JS) (D : DevS) (L : List Wr) : (J.commit D L).2.1.pend.length <= D.pend.length + 2 * L.length + 4 := by
 rw [commit_eq]
 by_cases hk : J.chk D.disk.length L ≠ 0
 ·rw [if_pos hk]; show D.pend.length <= _; omega
 ·rw [if_neg hk]
  by_cases hl : J.left < L.length + 2
  ·rw [if_pos hl]
   have := comR_len (J := J) (L := L) (c := J.ckp D) (m := D.pend.length + 2) JS.ckp_len
   omega
  ·rw [if_neg hl]
   have := comR_len (J := J) (L := L) (c := (0, D, J)) (m := D.pend.length) (Nat.le_refl _)
   omega
end Go.Proofs.YthambopnmhkeeaaGreat
/- What Open, Commit and crashes do with a journal, in plain lists: of a dead device; behind a crash; a second time. -/
namespace Go.Proofs.YthambopnmhkeeaaGreat
open Go.RowKit
section
variable {N M m n : Nat} {J : JS} {D : DevS} {L : List Wr} {H : Nat -> ByteArray} {F : List (List Wr)}
end
end Go.Proofs.YthambopnmhkeeaaGreat
/- A store's home in memory: a steady journal over a device, while the power is there: what it holds is what it tells. -/
namespace Go.Proofs.YthambopnmhkeeaaGreat
open Go.RowKit
open Fr (SlW)
theorem put_is {H : Int -> ByteArray} {G : Nat -> ByteArray} {L : List Wr} {b : Nat} (h0 : ∀ x ∈ L, 0 <= x.1 /\ x.2 = H x.1) (h1 : (∀ x ∈ L, x.1 ≠ b) -> G b = H b) : put G L b = H b := by
 unfold put vN
 cases hf : (natW L).reverse.find? (fun x => x.1 == b) with
 | some x =>
  have hx := List.mem_reverse.1 (List.mem_of_find?_eq_some hf)
  have he : x.1 = b := by simpa using List.find?_some hf
  obtain ⟨y, hy, rfl⟩ := List.mem_map.1 hx
  obtain ⟨g0, g1⟩ := h0 y hy
  dsimp only at he ⊢
  rw [g1]; congr 1; omega
 | none =>
  refine h1 fun x hx e => ?_
  rw [List.find?_eq_none] at hf
  have := hf (x.1.toNat, x.2) (List.mem_reverse.2 (List.mem_map.2 ⟨x, hx, rfl⟩))
  simp at this; omega
structure Hm (S SD : Nat -> Prop) (w : World) (h j p n N : Nat) (H : Int -> ByteArray) (sv : Value) (L : List Wr) (J : JS) (D : DevS) (F : List (List Wr)) (G : Nat -> ByteArray) : Prop where
 hh : w.heap[h]? = some (.cells #[.pointer (some ⟨j, 0, none⟩), sv, .slice none 0 0] 99 (0, 0))
 jr : Jr 104 w j p J
 dev : Stands SD w p D
 sl : SlW w sv L
 sd : ∀ k, SD k -> S k
 sh : S h
 sj : S j
 dh : ¬ SD h
 dj : ¬ SD j
 hj : h ≠ j
 vs : ∀ g off n c, sv = .slice (some ⟨g, off, none⟩) n c -> S g /\ ¬ SD g /\ g ≠ h /\ g ≠ j
 lt : ∀ k, S k -> k < w.heap.size
 sy : Sync N n J D G F
 gh : ∀ b : Nat, 62 <= b -> b < n -> G b = H b
 sure : ∀ x ∈ L, 62 <= x.1 /\ x.1 < n /\ x.2 = H x.1
 few : L.length <= 48
 pd : D.pend.length <= 50 * N
 nf : D.fused = false
 nb : N <= 10000
def Home (S : Nat -> Prop) (w : World) (h p n N : Nat) (H : Int -> ByteArray) : Prop := ∃ SD j sv L J D F G, Hm S SD w h j p n N H sv L J D F G
section
variable {S SD : Nat -> Prop} {w w' : World} {h j p n N : Nat} {H : Int -> ByteArray} {sv : Value} {L : List Wr} {J : JS} {D : DevS} {F : List (List Wr)} {G : Nat -> ByteArray}
theorem Hm.kept (m : Hm S SD w h j p n N H sv L J D F G) {T : Nat -> Prop} (ho : Only T w w') (hT : ∀ k, S k -> ¬ T k) : Hm S SD w' h j p n N H sv L J D F G :=
 ⟨by rw [ho.block h (m.lt h m.sh) (hT h m.sh)]; exact m.hh, m.jr.only ho (hT j m.sj), m.dev.kept ho (fun k hk => hT k (m.sd k hk)), SlW.only m.sl ho (fun g off n c hv => hT g (m.vs g off n c hv).1),
  m.sd, m.sh, m.sj, m.dh, m.dj, m.hj, m.vs, fun k hk => Nat.lt_of_lt_of_le (m.lt k hk) ho.size, m.sy, m.gh, m.sure, m.few, m.pd, m.nf, m.nb⟩
theorem Hm.below (m : Hm S SD w h j p n N H sv L J D F G) (hb : Below w.heap.size w w') : Hm S SD w' h j p n N H sv L J D F G :=
 m.kept (Only.of_below (fun _ => False) hb (Nat.le_refl _)) (fun _ _ => id)
theorem Home.kept (m : Home S w h p n N H) {T : Nat -> Prop} (ho : Only T w w') (hT : ∀ k, S k -> ¬ T k) : Home S w' h p n N H := by
 obtain ⟨SD, j, sv, L, J, D, F, G, m⟩ := m; exact ⟨SD, j, sv, L, J, D, F, G, m.kept ho hT⟩
theorem Home.below (m : Home S w h p n N H) (hb : Below w.heap.size w w') : Home S w' h p n N H :=
 m.kept (Only.of_below (fun _ => False) hb (Nat.le_refl _)) (fun _ _ => id)
theorem Home.lt (m : Home S w h p n N H) : ∀ k, S k -> k < w.heap.size := by obtain ⟨_, _, _, _, _, _, _, _, m⟩ := m; exact m.lt
theorem Home.sh (m : Home S w h p n N H) : S h := by obtain ⟨_, _, _, _, _, _, _, _, m⟩ := m; exact m.sh
theorem Hm.c0 (m : Hm S SD w h j p n N H sv L J D F G) : w.cell? ⟨h, 0, none⟩ = some (.pointer (some ⟨j, 0, none⟩)) := by rw [cell_at m.hh]; rfl
theorem Hm.c1 (m : Hm S SD w h j p n N H sv L J D F G) : w.cell? ⟨h, 1, none⟩ = some sv := by rw [cell_at m.hh]; rfl
theorem Hm.c2 (m : Hm S SD w h j p n N H sv L J D F G) : w.cell? ⟨h, 2, none⟩ = some (.slice none 0 0) := by rw [cell_at m.hh]; rfl
theorem Hm.f (m : Hm S SD w h j p n N H sv L J D F G) (i : Nat) : w.frozen? ⟨h, i, none⟩ = false := free_at m.hh i
theorem Hm.hlt (m : Hm S SD w h j p n N H sv L J D F G) : h < w.heap.size := m.lt h m.sh
theorem Hm.pd' (m : Hm S SD w h j p n N H sv L J D F G) : D.pend.length <= 500000 := by have := m.pd; have := m.nb; omega
theorem Hm.live (m : Hm S SD w h j p n N H sv L J D F G) : D.dead = false := m.sy.pre.live
theorem Hm.len (m : Hm S SD w h j p n N H sv L J D F G) : D.disk.length = n := m.sy.pre.len
theorem Hm.n4 (m : Hm S SD w h j p n N H sv L J D F G) : n <= 4096 := m.sy.pre.good.n4
theorem Hm.rd (m : Hm S SD w h j p n N H sv L J D F G) (i : Int) (h1 : 62 <= i) (h2 : i < n) : D.rd i = (H i, 0) := by
 obtain ⟨k, rfl⟩ := Int.eq_ofNat_of_zero_le (show 0 <= i by omega)
 have h3 := DevS.rd_live m.live k (by rw [m.len]; omega)
 rw [m.sy.pre.read k (by omega) (by omega), m.gh k (by omega) (by omega)] at h3
 exact h3
theorem Hm.home (m : Hm S SD w h j p n N H sv L J D F G) : J.home = 62 := by have := m.sy.pre.good.lg; unfold JS.home; omega
end
end Go.Proofs.YthambopnmhkeeaaGreat

/- What redo answers and leaves behind: the log's frames, done at home, in order. -/
import Derived.Test.YtepfcaopboenpaaGreatZJNext
import Derived.Test.YtepfcaopboenpaaGreatZJCheck
import Derived.Test.YtepfcaopboenpaaGreatZJCommit
import Derived.Deep.LoopGhost
import Derived.Test.YtepfcaopboenpaaGreatZJSlot
import Derived.BigRegion
import Derived.Lib.MinMax
import Derived.BigQuiet
import Derived.Deep.QuietTactic

namespace Go.Proofs.YtepfcaopboenpaaGreat
open Go.RowKit
open Fr (SlW SlS WritesAt StrsAt OwnS OwnW nmAt hd unp headB)

section
variable {S : Nat → Prop} {w w' : World} {a p : Nat} {J : JS} {D : DevS}

theorem unp_len (s : ByteArray) (l : List ByteArray) : (unp (s :: l)).2.1.length ≤ l.length := by
  rw [Fr.unp_cons]
  split
  · split
    · show ((Fr.blocksOf s.data.toList).zip (l.take (nmAt s.data.toList 12))).length ≤ _
      rw [List.length_zip, List.length_take]; omega
    · exact Nat.zero_le _
  · exact Nat.zero_le _
theorem frameOf_some {ws : List (Int × ByteArray)} (h : J.frameOf D = some ws) : 1 ≤ ws.length ∧ ws.length ≤ 48 ∧ ws.length + 1 ≤ J.left ∧ J.chk D.disk.length ws = 0 := by
  unfold JS.frameOf at h
  split at h
  · rename_i h1
    cases h
    have h2 := (J.chk_ok _ _).1 h1.2.2.2.2
    have h3 := unp_len (D.rdB (J.pos 0)) ((List.range (nmAt (D.rdB (J.pos 0)).data.toList 12)).map fun i => D.rdB (J.pos (i + 1)))
    rw [List.length_map, List.length_range] at h3
    have h4 : (unp (J.frameAt D)).2.1.length ≤ nmAt (D.rdB (J.pos 0)).data.toList 12 := h3
    exact ⟨h2.1, h2.2.1, by omega, h1.2.2.2.2⟩
  · cases h
theorem redoN_none (m : Nat) (h : J.frameOf D = none) : J.redoN D (m + 1) = (0, D, J) := by
  show (match J.frameOf D with | none => _ | some ws => _) = _
  rw [h]
theorem redoN_some (m : Nat) {ws : List (Int × ByteArray)} (h : J.frameOf D = some ws) : J.redoN D (m + 1) = if (D.wrs ws).1 ≠ 0 then ((D.wrs ws).1, (D.wrs ws).2, J.grow (ws.length + 1)) else (J.grow (ws.length + 1)).redoN (D.wrs ws).2 m := by
  show (match J.frameOf D with | none => _ | some ws => _) = _
  rw [h]

/-- Where the loop of redo stands, with m rounds to go at most. -/
def RedoI (t : TypeId) (S : Nat → Prop) (w : World) (a p : Nat) (J : JS) (D : DevS) (m : Nat) (wr : World) : Prop :=
  ∃ (Jk : JS) (Dk : DevS), Jk.redoN Dk m = J.redo D ∧ Jk.left < m ∧ Jk.Ok D.disk.length ∧ Dk.dead = false ∧ Dk.disk.length = D.disk.length ∧ Dk.pend.length + Jk.left ≤ D.pend.length + J.log ∧ JLeaves t S w wr a p Dk Jk

set_option maxRecDepth 100000 in
set_option maxHeartbeats 2000000 in
theorem redo_any (hj : Jr 79 w a p J) (hd : Stands S w p D) (ha : ¬ S a) (ok : J.Ok D.disk.length) (hde : D.dead = false) (hp : D.pend.length ≤ 700000) :
    Calls Tryz.prog 54 #[.pointer (some ⟨a, 0, none⟩)] w fun e w' => e = .returned (.int .i64 (J.redo D).1) ∧ JLeaves 79 S w w' a p (J.redo D).2.1 (J.redo D).2.2 := by
  have hnd := hd.ok.few
  have hll := ok.l1
  have HA := Lib.hid ha; clear ha
  have HI : Hid (RedoI 79 S w a p J D (J.log + 1) w) :=
    ⟨J, D, rfl, by unfold JS.left; omega, ok, hde, rfl, by unfold JS.left; omega, JLeaves.refl hd hj⟩
  have hJl := hj.lt
  clear hj hd ok hde
  go_enter Tryz.func54, Tryz.ntmps54
  go_wp2_with fail
  go_loopg [4] (J.log + 1) (fun m u wr => Hid (RedoI 79 S w a p J D m wr))
  case atStart => exact HI
  case round =>
    clear HI
    obtain ⟨Jk, Dk, he, hm, hok, hde, hdk, hpk, hlv⟩ := hrel.out
    clear hrel
    obtain ⟨m, rfl⟩ : ∃ m, gk = m + 1 := ⟨gk - 1, by omega⟩
    obtain ⟨S1, hS1, hs1, hj1, ho1⟩ := hlv
    have hal : a < w.heap.size := hJl
    have hna : ¬ S1 a := fun h => by rcases hS1 a h with h | h; exact HA.out h; omega
    have hok1 : Jk.Ok Dk.disk.length := by rw [hdk]; exact hok
    have CX := Lib.hid (next_any hj1 hs1 hok1 hde (by omega))
    have hleft : Jk.left ≤ 4096 := by have := hok.l1; unfold JS.left; omega
    cases hfr : Jk.frameOf Dk with
    | none =>
      have HR : Hid (J.redo D = (0, Dk, Jk)) := by show _ = _; rw [← he]; exact redoN_none m hfr
      have HF : Hid (∀ w2, Below wr.heap.size wr w2 → JLeaves 79 S w w2 a p Dk Jk) := fun w2 hb => JLeaves.below ⟨S1, hS1, hs1, hj1, ho1⟩ hb
      rw [hfr] at CX
      clear he hm hok hde hdk hpk hS1 hs1 hj1 ho1 hna hok1 hfr hleft
      go_wp2_with fail
      refine CX.out.mono ?_
      rintro e w2 ⟨u, rfl, hu, hb⟩
      have HF2 := Lib.hid (HF.out _ hb); clear hb
      have hsh := own_shape hu
      clear hu
      obtain ⟨ao, c, rfl⟩ := hsh
      simp only [Option.getD_none, List.length_nil]
      go_wp2
      go_ret
      exact ⟨by rw [HR.out]; rfl, by rw [HR.out]; exact HF2.out⟩
    | some ws =>
      obtain ⟨f1, f2, f3, f4⟩ := frameOf_some hfr
      have hE := redoN_some m hfr
      rw [he] at hE
      rw [hfr] at CX
      have hok2 : (Jk.grow (ws.length + 1)).Ok D.disk.length := hok.grow _ (by unfold JS.left at f3; have := hok.fu; omega)
      have hl2 : (Jk.grow (ws.length + 1)).left = Jk.left - (ws.length + 1) := by unfold JS.left JS.grow; simp only; omega
      have hwl := Dk.wrs_len ws
      have hwd := Dk.wrs_disk ws
      have hwlive := Dk.wrs_live ws hde
      have HE := Lib.hid hE
      have HS1 := Lib.hid hS1; have HO1 := Lib.hid ho1; have HSt1 := Lib.hid hs1; have HJ1 := Lib.hid hj1; have HNA := Lib.hid hna
      have HOK := Lib.hid hok1; have HOK2 := Lib.hid hok2
      have HWd := Lib.hid hwd; have HWl := Lib.hid hwlive
      have HDk := Lib.hid hdk
      clear hE he hS1 ho1 hs1 hj1 hna hok1 hok2 hok hde hfr hdk hwd hwlive f4
      simp only [Option.getD_some] at CX
      go_wp2_with fail
      refine CX.out.mono ?_
      rintro e w2 ⟨u, rfl, hu, hb⟩
      have HB2 := Lib.hid hb; have HU2 := Lib.hid hu
      clear hb hu CX
      have hsh := own_shape HU2.out
      obtain ⟨ao, c, hv⟩ := hsh
      subst hv
      have f1' : (((ws.length : Nat) : Int) == 0) = false := beq_eq_false_iff_ne.2 (by omega)
      have hj2 := HJ1.out.below HB2.out
      have CG := Lib.hid (grow_any (ws.length + 1) hj2 HOK.out (by rw [HDk.out]; exact hnd) (by omega))
      have hcast : ((ws.length + 1 : Nat) : Int) = (ws.length : Int) + 1 := by omega
      rw [hcast] at CG
      clear hcast
      have hs2 := HSt1.out.below HB2.out
      have HJ2 := Lib.hid hj2; have HSt2 := Lib.hid hs2
      clear hj2 hs2
      go_wp2_with fail
      refine CG.out.mono ?_
      rintro e w3 ⟨rfl, hj3, ho3, _⟩
      have hs3 : Stands S1 w3 p Dk := HSt2.out.kept ho3 (fun k hk hka => HNA.out (hka ▸ hk))
      have hou : ∀ g off n' c', Value.slice ao ws.length c = .slice (some ⟨g, off, none⟩) n' c' → wr.heap.size ≤ g := fun g off n' c' hv => (HU2.out.lt g (by rw [hv]; rfl)).1
      have hsl3 : SlW w3 (.slice ao ws.length c) ws := SlW.only HU2.out.sl ho3 (fun g off n' c' hv hg => by have := hou g off n' c' hv; have := HJ1.out.lt; omega)
      have hout : Outs S1 (.slice ao ws.length c) := fun g off n' c' hv hg => by have := hou g off n' c' hv; have := HSt1.out.lt _ hg; omega
      have CW := Lib.hid (writeAll_any hj3 hs3 HNA.out (by omega) (by omega) hsl3 hout)
      have HF : Hid (∀ w4, Leaves S1 w3 w4 p (Dk.wrs ws).2 → JLeaves 79 S w w4 a p (Dk.wrs ws).2 (Jk.grow (ws.length + 1))) := fun w4 h => by
        refine JLeaves.next HS1.out HO1.out (JLeaves.from HB2.out (JLeaves.next (fun _ h => .inl h) (ho3.mono (fun _ _ h => .inr h)) (JLeaves.of h hj3 HNA.out)))
      clear hj3 hs3 ho3 hou hsl3 hout CG
      generalize Dk.wrs ws = R at *
      obtain ⟨er, DR⟩ := R
      simp only at HE CW HF HWd HWl hwl
      by_cases her : er = 0
      · have her' : (er != 0) = false := by simp [her]
        rw [if_neg (by simpa using her)] at HE
        go_wp2_with fail
        refine CW.out.mono ?_
        rintro e w4 ⟨rfl, hv4⟩
        have HF4 := Lib.hid (HF.out _ hv4); clear hv4
        go_wp2
        go_roundg m
        case measure => exact Nat.lt_succ_self m
        case rel =>
          refine ⟨_, _, HE.out.symm, ?_, HOK2.out, HWl.out her, ?_, ?_, HF4.out⟩
          · rw [hl2]; omega
          · rw [HWd.out]; exact HDk.out
          · rw [hl2]; omega
      · have her' : (er != 0) = true := by simp [her]
        rw [if_pos (by simpa using her)] at HE
        go_wp2_with fail
        refine CW.out.mono ?_
        rintro e w4 ⟨rfl, hv4⟩
        have HF4 := Lib.hid (HF.out _ hv4); clear hv4
        go_wp2
        go_ret
        exact ⟨by rw [HE.out]; rfl, by rw [HE.out]; exact HF4.out⟩
end
end Go.Proofs.YtepfcaopboenpaaGreat
/- What findSlot answers and leaves behind: the slot that counts. -/
namespace Go.Proofs.YtepfcaopboenpaaGreat
open Go.RowKit

section
variable {S : Nat → Prop} {w w' : World} {a p : Nat} {J : JS} {D : DevS}

/-- The best of the first k slots, and its block. -/
def DevS.best (D : DevS) : Nat → Option ((Nat × Nat × Nat × Nat) × Nat)
  | 0 => none
  | k + 1 => match D.slotAt k with
    | none => D.best k
    | some x => match D.best k with
      | none => some (x, k)
      | some y => if y.1.1 < x.1 then some (x, k) else some y
/-- The journal while the slots are read. -/
def bestJ : Option ((Nat × Nat × Nat × Nat) × Nat) → JS
  | none => ⟨0, 0, 0, 0, 0, 0, 0⟩
  | some x => ⟨x.1.1, x.1.2.1, x.1.2.2.1, x.1.2.2.2, x.2, 0, 0⟩
theorem find_best (D : DevS) : D.find = (D.best 2).map (fun x => slotJ x.1 x.2) := by
  unfold DevS.find
  show _ = Option.map _ (match D.slotAt 1 with | none => D.best 1 | some x => match D.best 1 with | none => some (x, 1) | some y => if y.1.1 < x.1 then some (x, 1) else some y)
  have h1 : D.best 1 = match D.slotAt 0 with | none => none | some x => some (x, 0) := by
    show (match D.slotAt 0 with | none => D.best 0 | some x => match D.best 0 with | none => some (x, 0) | some y => if y.1.1 < x.1 then some (x, 0) else some y) = _
    rfl
  rw [h1]
  cases D.slotAt 0 with
  | none => cases D.slotAt 1 <;> rfl
  | some x =>
    cases D.slotAt 1 with
    | none => rfl
    | some y =>
      show (if x.1 < y.1 then _ else _) = Option.map _ (if x.1 < y.1 then _ else _)
      split <;> rfl
theorem best_one (D : DevS) (h : D.disk.length = 1) : D.best 2 = D.best 1 := by
  have : D.slotAt 1 = none := by unfold DevS.slotAt; rw [if_neg (by omega)]
  show (match D.slotAt 1 with | none => D.best 1 | some x => _) = _
  rw [this]
theorem best_none (D : DevS) (k : Nat) (h : D.slotAt k = none) : D.best (k + 1) = D.best k := by
  show (match D.slotAt k with | none => D.best k | some x => _) = _
  rw [h]
theorem best_some (D : DevS) (k : Nat) {x : Nat × Nat × Nat × Nat} (h : D.slotAt k = some x) : D.best (k + 1) = match D.best k with | none => some (x, k) | some y => if y.1.1 < x.1 then some (x, k) else some y := by
  show (match D.slotAt k with | none => D.best k | some x => _) = _
  rw [h]

set_option maxRecDepth 100000 in
set_option maxHeartbeats 2000000 in
theorem find_dead (hj : Jr 79 w a p J) (hd : Stands S w p D) (hde : D.dead = true) (hp : D.pend.length ≤ 1000000) :
    Calls Tryz.prog 53 #[.pointer (some ⟨a, 0, none⟩)] w fun e w' => e = .returned (.int .i64 4) ∧ Below w.heap.size w w' := by
  have h1 := hd.ok.some
  have hnd := hd.ok.few
  have hr : D.rd 0 = (ByteArray.empty, 4) := by unfold DevS.rd DevS.ck; rw [hde]; rfl
  have CBl : Hid (∀ W, Below w.heap.size w W → Calls Tryz.prog 49 #[.pointer (some ⟨p, 0, none⟩)] W fun e w' => e = .returned (.int .i64 D.disk.length) ∧ W = w') := fun W hW => blocks_any (hd.below hW)
  have CR : Hid (∀ W, Below w.heap.size w W → Calls Tryz.prog 29 #[.pointer (some ⟨p, 0, none⟩), .int .i64 0] W fun e w' => e = .returned (.tuple #[.string ByteArray.empty, .int .i64 4]) ∧ Below W.heap.size W w') := fun W hW => by
    have := read_any 0 hp (hd.below hW); rw [hr] at this; exact this
  have c0 := hj.c0
  have HKp : Hid (∀ W, Below w.heap.size w W → W.cell? ⟨a, 0, none⟩ = some (.pointer (some ⟨p, 0, none⟩))) := fun W hW => (hW.cell (p := ⟨a, 0, none⟩) hj.lt).trans c0
  clear hj hd hr
  generalize D.disk.length = nd at *
  obtain ⟨M, hM⟩ : ∃ M : Nat, M = min 2 nd := ⟨_, rfl⟩
  have hM1 : 1 ≤ M := by omega
  go_enter Tryz.func53, Tryz.ntmps53
  go_wp2_with fail
  refine (CBl.out _ (Below.refl _ _)).mono ?_
  rintro e w1 ⟨rfl, rfl⟩
  go_wp2_with fail
  go_loopw [15] (fun i wr => i = .int .i64 0 ∧ wr = w) (fun _ _ => 0)
  case atStart => exact ⟨rfl, rfl⟩
  case round =>
    obtain ⟨rfl, rfl⟩ := hrel
    have h2 : (0 : Int) < min 2 (nd : Int) := by omega
    go_wp2_with fail
    refine (CR.out _ (Below.refl _ _)).mono ?_
    rintro e w1 ⟨rfl, hb⟩
    have HB := Lib.hid hb; clear hb
    go_wp2
    go_ret
    exact ⟨rfl, HB.out⟩

/-- What findSlot tells. -/
def FindP (D : DevS) (a p : Nat) (e : Ending) (w' : World) : Prop := (D.find = none → e = .returned (.int .i64 10)) ∧ ∀ J, D.find = some J → e = .returned (.int .i64 0) ∧ Jr 79 w' a p J

/-- A slot's fields stored into a journal. -/
abbrev slW (w : World) (a : Nat) (x : Nat × Nat × Nat × Nat) (k : Nat) : World := ((((w.setCell ⟨a, 1, none⟩ (.int .u64 (x.1 : Int))).setCell ⟨a, 2, none⟩ (.int .u64 (x.2.1 : Int))).setCell ⟨a, 3, none⟩ (.int .i64 (x.2.2.1 : Int))).setCell ⟨a, 4, none⟩ (.int .i64 (x.2.2.2 : Int))).setCell ⟨a, 5, none⟩ (.int .i64 (k : Int))
theorem sl_only (w : World) (a : Nat) (x : Nat × Nat × Nat × Nat) (k : Nat) : Only (fun k => k = a) w (slW w a x k) :=
  (((((Only.refl (fun k => k = a) w).setCell (p := ⟨a, 1, none⟩) (fun _ => rfl) _).setCell (p := ⟨a, 2, none⟩) (fun _ => rfl) _).setCell (p := ⟨a, 3, none⟩) (fun _ => rfl) _).setCell (p := ⟨a, 4, none⟩) (fun _ => rfl) _).setCell (p := ⟨a, 5, none⟩) (fun _ => rfl) _
theorem Jr.sl {t : TypeId} (h : Jr t w a p J) (x : Nat × Nat × Nat × Nat) (k : Nat) : Jr t (slW w a x k) a p ⟨x.1, x.2.1, x.2.2.1, x.2.2.2, k, J.next, J.full⟩ := by
  have h1 := h.put (J' := { J with e := x.1 }) (i := 1) (v := .int .u64 (x.1 : Int)) (by simp [JCells])
  have h2 := h1.put (J' := { J with e := x.1, s := x.2.1 }) (i := 2) (v := .int .u64 (x.2.1 : Int)) (by simp [JCells])
  have h3 := h2.put (J' := { J with e := x.1, s := x.2.1, log := x.2.2.1 }) (i := 3) (v := .int .i64 (x.2.2.1 : Int)) (by simp [JCells])
  have h4 := h3.put (J' := { J with e := x.1, s := x.2.1, log := x.2.2.1, p := x.2.2.2 }) (i := 4) (v := .int .i64 (x.2.2.2 : Int)) (by simp [JCells])
  exact h4.put (J' := ⟨x.1, x.2.1, x.2.2.1, x.2.2.2, k, J.next, J.full⟩) (i := 5) (v := .int .i64 (k : Int)) (by simp [JCells])

set_option maxRecDepth 100000 in
set_option maxHeartbeats 4000000 in
theorem find_live (hj : Jr 79 w a p ⟨0, 0, 0, 0, 0, 0, 0⟩) (hd : Stands S w p D) (ha : ¬ S a) (hde : D.dead = false) (hp : D.pend.length ≤ 1000000) :
    Calls Tryz.prog 53 #[.pointer (some ⟨a, 0, none⟩)] w fun e w' => Only (fun k => k = a) w w' ∧ FindP D a p e w' := by
  have h1 := hd.ok.some
  have hnd := hd.ok.few
  have hal := hj.lt
  have CBl : Hid (∀ W, Only (fun k => k = a) w W → Calls Tryz.prog 49 #[.pointer (some ⟨p, 0, none⟩)] W fun e w' => e = .returned (.int .i64 D.disk.length) ∧ W = w') := fun W hW => blocks_any (hd.kept hW (fun k hk hka => ha (hka ▸ hk)))
  have CR : Hid (∀ W k, k < D.disk.length → Only (fun k => k = a) w W → Calls Tryz.prog 29 #[.pointer (some ⟨p, 0, none⟩), .int .i64 ((k : Nat) : Int)] W fun e w' => e = .returned (.tuple #[.string (D.rdB k), .int .i64 0]) ∧ Below W.heap.size W w') := fun W k hk hW => by
    have := read_any (k : Int) hp (hd.kept hW (fun k hk hka => ha (hka ▸ hk)))
    rw [DevS.rd_live hde _ hk] at this; exact this
  have CS : Hid (∀ W k, k < D.disk.length → Calls Tryz.prog 80 #[.string (D.rdB k), .int .i64 (D.disk.length : Int)] W fun r w' => r = .returned (slotV (D.slotAt k)) ∧ Below W.heap.size W w') := fun W k hk => by
    have := readSlot_any (D.rdB k) D.disk.length W (hd.ok.rdB_size k hk) hnd
    have e : D.slotAt k = rdSlot (D.rdB k) D.disk.length := by unfold DevS.slotAt; rw [if_pos hk]
    rw [e]; exact this
  have HFB := Lib.hid (find_best D)
  have HB1 := Lib.hid (best_one D)
  have HJ := Lib.hid hj
  have c0 := hj.c0
  clear hj hd ha hde
  obtain ⟨nd, hnd'⟩ : ∃ n, D.disk.length = n := ⟨_, rfl⟩
  rw [hnd'] at CBl CS CR h1 hnd HB1
  clear hnd'
  obtain ⟨M, hM⟩ : ∃ M : Nat, M = min 2 nd := ⟨_, rfl⟩
  have hMe : min 2 (nd : Int) = (M : Int) := by omega
  go_enter Tryz.func53, Tryz.ntmps53
  go_wp2_with fail
  refine (CBl.out _ (Only.refl _ _)).mono ?_
  rintro e w1 ⟨rfl, rfl⟩
  go_wp2_with fail
  go_loopw [3, 15] (fun fd i wr => ∃ k : Nat, k ≤ M ∧ i = .int .i64 k ∧ fd = .bool (D.best k).isSome ∧ Hid (Jr 79 wr a p (bestJ (D.best k))) ∧ Hid (Only (fun k => k = a) w wr)) (fun _ i _ => M - (intOf i).toNat)
  case atStart => exact ⟨0, Nat.zero_le _, rfl, rfl, HJ, Only.refl _ _⟩
  case round =>
    obtain ⟨k, hk, rfl, rfl, HJk, HO⟩ := hrel
    clear HJ c0
    by_cases hlt : k < M
    · have hkn : k < nd := by omega
      have ca := HJk.out.c0
      have halr := HJk.out.lt
      have CRk := Lib.hid (CR.out wr k hkn HO.out)
      have CSk := Lib.hid (fun W => CS.out W k hkn)
      have CBk : Hid (∀ W, Below wr.heap.size wr W → Calls Tryz.prog 49 #[.pointer (some ⟨p, 0, none⟩)] W fun e w' => e = .returned (.int .i64 nd) ∧ W = w') := fun W hW => CBl.out W (HO.out.trans (Only.of_below (fun _ => False) hW (Nat.le_refl _)) (fun _ _ f => f.elim))
      clear CR CS CBl
      generalize D.rdB k = tx at *
      have hlt' : (k : Int) < (M : Int) := by omega
      go_wp2_with fail
      refine CRk.out.mono ?_
      rintro e w1 ⟨rfl, hb1⟩
      have HB1' := Lib.hid hb1; clear hb1
      have ca1 := (HB1'.out.cell (p := ⟨a, 0, none⟩) halr).trans ca
      go_wp2_with fail
      refine (CBk.out _ HB1'.out).mono ?_
      rintro e w2 ⟨rfl, rfl⟩
      go_wp2_with fail
      refine (CSk.out _).mono ?_
      rintro e w3 ⟨rfl, hb3⟩
      have HB3 := Lib.hid (HB1'.out.trans (hb3.mono HB1'.out.size)); clear hb3 HB1' ca ca1 CRk CSk CBk
      have HJ3 := Lib.hid (HJk.out.below HB3.out)
      have HO3 : Hid (Only (fun k => k = a) w w3) := HO.out.trans (Only.of_below (fun _ => False) HB3.out (Nat.le_refl _)) (fun _ _ f => f.elim)
      have hal3 := HJ3.out.lt
      cases hs : D.slotAt k with
      | none =>
        have HBn : Hid (D.best (k + 1) = D.best k) := best_none D k hs
        have HBi : Hid ((D.best (k + 1)).isSome = (D.best k).isSome) := by show _ = _; rw [HBn.out]
        generalize (D.best k).isSome = fd at *
        simp only [slotV]
        clear hs
        go_wp2_with fail
        go_quiet (fail)
        go_wp2
        go_roundw
        case rel =>
          have hb : Below w3.heap.size w3 ((w3.alloc (.cells #[.int .u64 0, .int .u64 0, .int .i64 0, .int .i64 0] 77)).drewN nq) := Fr.below_drewN ((Below.refl _ _).alloc (Nat.le_refl _) _) _
          exact ⟨k + 1, by omega, by go_num, by rw [HBi.out], by rw [HBn.out]; exact HJ3.out.below hb, HO3.out.trans (Only.of_below (fun _ => False) hb (Nat.le_refl _)) (fun _ _ f => f.elim)⟩
        case measure => simp [intOf]; omega
      | some x =>
        have HBs := Lib.hid (best_some D k hs)
        clear hs
        obtain ⟨xe, xs, xl, xp⟩ := x
        simp only [slotV]
        obtain ⟨X, hX⟩ : ∃ X, w3.alloc (.cells #[.int .u64 (xe : Int), .int .u64 (xs : Int), .int .i64 (xl : Int), .int .i64 (xp : Int)] 77) = X := ⟨_, rfl⟩
        have hXb : Below w3.heap.size w3 X := by rw [← hX]; exact (Below.refl _ _).alloc (Nat.le_refl _) _
        have hXh : X.heap[w3.heap.size]? = some (.cells #[.int .u64 (xe : Int), .int .u64 (xs : Int), .int .i64 (xl : Int), .int .i64 (xp : Int)] 77 (0, 0)) := by rw [← hX, heap_alloc_new]
        have k0 : X.cell? ⟨w3.heap.size, 0, none⟩ = some (.int .u64 (xe : Int)) := by rw [cell_at hXh]; rfl
        have k1 : X.cell? ⟨w3.heap.size, 1, none⟩ = some (.int .u64 (xs : Int)) := by rw [cell_at hXh]; rfl
        have k2 : X.cell? ⟨w3.heap.size, 2, none⟩ = some (.int .i64 (xl : Int)) := by rw [cell_at hXh]; rfl
        have k3 : X.cell? ⟨w3.heap.size, 3, none⟩ = some (.int .i64 (xp : Int)) := by rw [cell_at hXh]; rfl
        have HJX := Lib.hid (HJ3.out.below hXb)
        have HOX : Hid (Only (fun k => k = a) w X) := HO3.out.trans (Only.of_below (fun _ => False) hXb (Nat.le_refl _)) (fun _ _ f => f.elim)
        have HX := Lib.hid hX
        have hne : w3.heap.size ≠ a := by omega
        clear hX hXb hXh HJ3 HO3 HB3 HJk
        cases hbk : D.best k with
        | none =>
          rw [hbk] at HBs HJX
          have HBn : Hid (D.best (k + 1) = some ((xe, xs, xl, xp), k)) := HBs.out
          simp only [Option.isSome_none]
          simp only [bestJ] at HJX
          clear HBs hbk
          have X0 := HJX.out.c1; have X1 := HJX.out.c2; have X2 := HJX.out.c3; have X3 := HJX.out.c4; have X4 := HJX.out.c5
          have F0 := HJX.out.f 1; have F1 := HJX.out.f 2; have F2 := HJX.out.f 3; have F3 := HJX.out.f 4; have F4 := HJX.out.f 5
          go_wp2_with fail
          rw [HX.out]
          go_quiet (fail)
          go_wp2_with fail
          go_region
          go_wp2
          go_roundw
          case rel => exact ⟨k + 1, by omega, by go_num, by rw [HBn.out]; rfl, by rw [HBn.out]; exact (HJX.out.sl (xe, xs, xl, xp) k).below (Fr.below_drewN (Below.refl _ _) _), (HOX.out.trans (sl_only X a (xe, xs, xl, xp) k) (fun _ _ h => h)).trans (Only.of_below (fun _ => False) (Fr.below_drewN (Below.refl _ _) _) (Nat.le_refl _)) (fun _ _ f => f.elim)⟩
          case measure => simp [intOf]; omega
        | some y =>
          obtain ⟨⟨ye, ys, yl, yp⟩, yi⟩ := y
          rw [hbk] at HBs HJX
          simp only [Option.isSome_some]
          simp only [bestJ] at HJX
          by_cases hg : ye < xe
          · have HBn : Hid (D.best (k + 1) = some ((xe, xs, xl, xp), k)) := by
              show _ = _; rw [HBs.out]; show (if ye < xe then _ else _) = _; rw [if_pos hg]
            have hg' : (ye : Int) < (xe : Int) := by omega
            have hgd : decide ((ye : Int) < (xe : Int)) = true := decide_eq_true hg'
            clear HBs hbk
            have X0 := HJX.out.c1; have X1 := HJX.out.c2; have X2 := HJX.out.c3; have X3 := HJX.out.c4; have X4 := HJX.out.c5
            have F0 := HJX.out.f 1; have F1 := HJX.out.f 2; have F2 := HJX.out.f 3; have F3 := HJX.out.f 4; have F4 := HJX.out.f 5
            go_wp2_with fail
            rw [HX.out]
            go_quiet (fail)
            go_wp2_with fail
            go_region
            go_wp2
            go_roundw
            case rel => exact ⟨k + 1, by omega, by go_num, by rw [HBn.out]; rfl, by rw [HBn.out]; exact (HJX.out.sl (xe, xs, xl, xp) k).below (Fr.below_drewN (Below.refl _ _) _), (HOX.out.trans (sl_only X a (xe, xs, xl, xp) k) (fun _ _ h => h)).trans (Only.of_below (fun _ => False) (Fr.below_drewN (Below.refl _ _) _) (Nat.le_refl _)) (fun _ _ f => f.elim)⟩
            case measure => simp [intOf]; omega
          · have HBn : Hid (D.best (k + 1) = some ((ye, ys, yl, yp), yi)) := by
              show _ = _; rw [HBs.out]; show (if ye < xe then _ else _) = _; rw [if_neg hg]
            have hg' : ¬ (ye : Int) < (xe : Int) := by omega
            have hgd : decide ((ye : Int) < (xe : Int)) = false := decide_eq_false hg'
            have X0 := HJX.out.c1
            clear HBs hbk
            go_wp2_with fail
            rw [HX.out]
            go_quiet (fail)
            go_wp2
            go_roundw
            case rel => exact ⟨k + 1, by omega, by go_num, by rw [HBn.out]; rfl, by rw [HBn.out]; exact HJX.out.below (Fr.below_drewN (Below.refl _ _) _), HOX.out.trans (Only.of_below (fun _ => False) (Fr.below_drewN (Below.refl _ _) _) (Nat.le_refl _)) (fun _ _ f => f.elim)⟩
            case measure => simp [intOf]; omega
    · have hkn : k = M := by omega
      have hb2 : D.best k = D.best 2 := by
        by_cases h2 : nd = 1
        · rw [HB1.out h2, hkn, hM, h2]; rfl
        · rw [hkn, hM, show min 2 nd = 2 by omega]
      have hlt' : ¬ (k : Int) < (M : Int) := by omega
      rw [hb2] at HJk ⊢
      cases hb : D.best 2 with
      | none =>
        rw [hb] at HJk
        have HF : Hid (D.find = none) := by show _ = _; rw [HFB.out, hb]; rfl
        simp only [Option.isSome_none]
        clear hb hb2 hkn
        go_wp2
        go_ret
        exact ⟨HO.out, fun _ => rfl, fun J h => by rw [HF.out] at h; cases h⟩
      | some y =>
        obtain ⟨⟨ye, ys, yl, yp⟩, yi⟩ := y
        rw [hb] at HJk
        have HF : Hid (D.find = some ⟨ye, ys, yl, yp, yi, ys, 0⟩) := by show _ = _; rw [HFB.out, hb]; rfl
        simp only [Option.isSome_some]
        simp only [bestJ] at HJk
        have c2 := HJk.out.c2; have c6 := HJk.out.c6; have f6 := HJk.out.f 6
        clear hb hb2 hkn
        go_wp2
        go_ret
        refine ⟨HO.out.setCell (p := ⟨a, 6, none⟩) (fun _ => rfl) _, fun h => (by rw [HF.out] at h; cases h), fun J h => ?_⟩
        rw [HF.out] at h
        cases h
        exact ⟨rfl, HJk.out.put (J' := ⟨ye, ys, yl, yp, yi, ys, 0⟩) (i := 6) (by simp [JCells])⟩
end
end Go.Proofs.YtepfcaopboenpaaGreat
/- What Open answers and leaves behind, for every device. -/
namespace Go.Proofs.YtepfcaopboenpaaGreat
open Go.RowKit

section
variable {S : Nat → Prop} {w w' : World} {a p : Nat} {J : JS} {D : DevS}

/-- What Open leaves: an error and nil, or a new journal. -/
def Opened (t : TypeId) (S : Nat → Prop) (w w' : World) (p : Nat) (r : Int × DevS × Option JS) (e : Ending) : Prop :=
  ∃ S' : Nat → Prop, (∀ k, S' k → S k ∨ w.heap.size ≤ k) ∧ Stands S' w' p r.2.1 ∧ Only S w w' ∧
    (match r.2.2 with
    | none => e = .returned (.tuple #[.pointer none, .int .i64 r.1])
    | some J => ∃ a, e = .returned (.tuple #[.pointer (some ⟨a, 0, none⟩), .int .i64 r.1]) ∧ w.heap.size ≤ a ∧ ¬ S' a ∧ Jr t w' a p J)

theorem rdSlot_ok {t : ByteArray} {n : Nat} {x : Nat × Nat × Nat × Nat} (h : rdSlot t n = some x) : 50 ≤ x.2.2.1 ∧ x.2.2.1 + 3 ≤ n ∧ x.2.2.2 < x.2.2.1 ∧ x.1 < 18446744073709551616 ∧ x.2.1 < 18446744073709551616 := by
  obtain ⟨⟨h1, h2, h3, _⟩, rfl⟩ := (rdSlot_iff t n x).1 h
  exact ⟨h1, h2, h3, wideAt_lt _ _, wideAt_lt _ _⟩
theorem find_ok (h : D.find = some J) : J.Ok D.disk.length ∧ J.full = 0 := by
  have hs : ∀ i x, i ≤ 1 → D.slotAt i = some x → (slotJ x i).Ok D.disk.length ∧ (slotJ x i).full = 0 := by
    intro i x hi hx
    unfold DevS.slotAt at hx
    split at hx
    · obtain ⟨h1, h2, h3, h4, h5⟩ := rdSlot_ok hx
      exact ⟨⟨h1, h2, h3, hi, Nat.zero_le _, h4, h5, h5⟩, rfl⟩
    · cases hx
  unfold DevS.find at h
  split at h
  · cases h
  · rename_i x h0 h1; cases h; exact hs 0 x (by omega) h0
  · rename_i x h0 h1; cases h; exact hs 1 x (by omega) h1
  · rename_i x y h0 h1
    split at h
    · cases h; exact hs 1 y (by omega) h1
    · cases h; exact hs 0 x (by omega) h0


theorem redoN_keeps (m : Nat) : ∀ (J : JS) (D : DevS), J.Ok D.disk.length → (J.redoN D m).2.1.disk.length = D.disk.length ∧ (J.redoN D m).2.2.Ok D.disk.length ∧ (J.redoN D m).2.1.pend.length + (J.redoN D m).2.2.left ≤ D.pend.length + J.left := by
  induction m with
  | zero => intro J D ok; exact ⟨rfl, ok, Nat.le_refl _⟩
  | succ m ih =>
    intro J D ok
    cases hfr : J.frameOf D with
    | none => rw [redoN_none m hfr]; exact ⟨rfl, ok, Nat.le_refl _⟩
    | some ws =>
      obtain ⟨f1, f2, f3, _⟩ := frameOf_some hfr
      have hl := ok.fu
      have ok2 : (J.grow (ws.length + 1)).Ok D.disk.length := ok.grow _ (by unfold JS.left at f3; omega)
      have hl2 : (J.grow (ws.length + 1)).left = J.left - (ws.length + 1) := by unfold JS.left JS.grow; simp only; omega
      have hw := D.wrs_len ws
      have hd := D.wrs_disk ws
      rw [redoN_some m hfr]
      split
      · refine ⟨by rw [hd], ok2, ?_⟩
        show (D.wrs ws).2.pend.length + (J.grow (ws.length + 1)).left ≤ _
        rw [hl2]; omega
      · have := ih (J.grow (ws.length + 1)) (D.wrs ws).2 (by rw [hd]; exact ok2)
        rw [hd] at this
        refine ⟨this.1, this.2.1, ?_⟩
        have := this.2.2
        rw [hl2] at this
        omega
/-- From what a call on the new journal leaves to what Open leaves. -/
theorem opened_of {X : World} {D' : DevS} {J' : JS} (hd : Stands S w p D) (hXb : Below w.heap.size w X) (hX : w.heap.size < X.heap.size) (h : JLeaves 79 S X w' w.heap.size p D' J') :
    ∃ S' : Nat → Prop, (∀ k, S' k → S k ∨ w.heap.size ≤ k) ∧ Stands S' w' p D' ∧ Only S w w' ∧ ¬ S' w.heap.size ∧ Jr 79 w' w.heap.size p J' := by
  obtain ⟨S', hS', hs, hj, ho⟩ := h
  refine ⟨S', fun k hk => ?_, hs, ?_, fun h => ?_, hj⟩
  · rcases hS' k hk with h | h
    · exact .inl h
    · exact .inr (by omega)
  · exact (Only.of_below S hXb (Nat.le_refl _)).trans ho (fun i hi h => by rcases h with h | h; exact h; omega)
  · rcases hS' _ h with h | h
    · have := hd.lt _ h; omega
    · omega

set_option maxRecDepth 100000 in
set_option maxHeartbeats 2000000 in
theorem open_any (hd : Stands S w p D) (hp : D.pend.length ≤ 600000) :
    Calls Tryz.prog 26 #[.pointer (some ⟨p, 0, none⟩)] w fun e w' => Opened 79 S w w' p D.opn e := by
  have hlt := hd.lt
  have hnd := hd.ok.few
  obtain ⟨X, hX⟩ : ∃ X, w.alloc (.cells #[.pointer (some ⟨p, 0, none⟩), .int .u64 0, .int .u64 0, .int .i64 0, .int .i64 0, .int .i64 0, .int .u64 0, .int .i64 0] 79) = X := ⟨_, rfl⟩
  have hXb : Below w.heap.size w X := by rw [← hX]; exact (Below.refl _ _).alloc (Nat.le_refl _) _
  have hXj : Jr 79 X w.heap.size p ⟨0, 0, 0, 0, 0, 0, 0⟩ := by unfold Jr; rw [← hX]; exact heap_alloc_new ..
  have hXs := hd.below hXb
  have hXz := hXj.lt
  have hna : ¬ S w.heap.size := fun h => by have := hlt _ h; omega
  have HX := Lib.hid hX; clear hX
  have HXB := Lib.hid hXb; have HD := Lib.hid hd
  cases hde : D.dead with
  | true =>
    have HO : Hid (D.opn = (4, D, none)) := by show _ = _; unfold DevS.opn; rw [hde]; rfl
    have CF := Lib.hid (find_dead hXj hXs hde (by omega))
    clear hXj hXs hna hde hlt hd hXb
    go_enter Tryz.func26, Tryz.ntmps26
    go_wp2_with fail
    rw [HX.out]
    refine CF.out.mono ?_
    rintro e w1 ⟨rfl, hb1⟩
    have HB1 : Hid (Below w.heap.size w w1) := HXB.out.trans (hb1.mono HXB.out.size)
    clear hb1
    go_wp2
    go_ret2
    unfold Opened
    rw [HO.out]
    exact ⟨S, fun _ => .inl, HD.out.below HB1.out, Only.of_below _ HB1.out (Nat.le_refl _), rfl⟩
  | false =>
    have CF := Lib.hid (find_live hXj hXs hna hde (by omega))
    cases hf : D.find with
    | none =>
      have HO : Hid (D.opn = (10, D, none)) := by show _ = _; unfold DevS.opn; rw [hde, hf]; rfl
      have HF := Lib.hid hf
      clear hXj hXs hna hde hlt hd hXb hf
      go_enter Tryz.func26, Tryz.ntmps26
      go_wp2_with fail
      rw [HX.out]
      refine CF.out.mono ?_
      rintro e w1 ⟨ho1, hp1, _⟩
      have he := hp1 HF.out
      subst he
      have HO1 : Hid (Only S w w1) := (Only.of_below S HXB.out (Nat.le_refl _)).trans ho1 (fun i hi h => by omega)
      have HS1 : Hid (Stands S w1 p D) := (HD.out.below HXB.out).kept ho1 (fun k hk hka => by have := HD.out.lt _ hk; omega)
      clear ho1 hp1 CF
      go_wp2
      go_ret2
      unfold Opened
      rw [HO.out]
      exact ⟨S, fun _ => .inl, HS1.out, HO1.out, rfl⟩
    | some J =>
      obtain ⟨hok, hfu⟩ := find_ok hf
      have HF := Lib.hid hf
      have HOp : Hid (D.opn = if (J.redo D).1 ≠ 0 then ((J.redo D).1, (J.redo D).2.1, none) else if ((J.redo D).2.2.ckp (J.redo D).2.1).1 ≠ 0 then (((J.redo D).2.2.ckp (J.redo D).2.1).1, ((J.redo D).2.2.ckp (J.redo D).2.1).2.1, none) else (0, ((J.redo D).2.2.ckp (J.redo D).2.1).2.1, some ((J.redo D).2.2.ckp (J.redo D).2.1).2.2)) := by
        show _ = _; unfold DevS.opn; rw [hde, hf]; rfl
      have hkp : (J.redo D).2.1.disk.length = D.disk.length ∧ (J.redo D).2.2.Ok D.disk.length ∧ (J.redo D).2.1.pend.length ≤ 700000 := by
        have h := redoN_keeps (J.log + 1) J D hok
        refine ⟨h.1, h.2.1, ?_⟩
        have h3 := h.2.2
        have := hok.l1
        have h4 : J.left ≤ 4096 := by unfold JS.left; omega
        show (J.redoN D (J.log + 1)).2.1.pend.length ≤ _
        omega
      have HK := Lib.hid hkp
      have HXS := Lib.hid hXs; have HNA := Lib.hid hna
      have HDE := Lib.hid hde; have HOK := Lib.hid hok
      clear hXj hXs hna hde hlt hd hXb hf hok hfu hkp
      go_enter Tryz.func26, Tryz.ntmps26
      go_wp2_with fail
      rw [HX.out]
      refine CF.out.mono ?_
      rintro e w1 ⟨ho1, _, hp1⟩
      obtain ⟨he, hj1⟩ := hp1 J HF.out
      subst he
      have hs1 : Stands S w1 p D := HXS.out.kept ho1 (fun k hk hka => HNA.out (hka ▸ hk))
      have CR := Lib.hid (redo_any hj1 hs1 HNA.out HOK.out HDE.out (by omega))
      have HO1 : Hid (∀ w2 D2 J2, JLeaves 79 S w1 w2 w.heap.size p D2 J2 → JLeaves 79 S X w2 w.heap.size p D2 J2) := fun w2 D2 J2 h => JLeaves.next (fun _ h => .inl h) (ho1.mono (fun _ _ h => .inr h)) h
      clear ho1 hp1 hj1 hs1 CF
      generalize J.redo D = R1 at *
      obtain ⟨er1, D1, J1⟩ := R1
      simp only at HOp HK CR
      go_wp2_with fail
      refine CR.out.mono ?_
      rintro e w2 ⟨rfl, hv2⟩
      have HV2 := Lib.hid (HO1.out _ _ _ hv2)
      clear hv2 CR HO1
      by_cases he1 : er1 = 0
      · have he1' : (er1 != 0) = false := by simp [he1]
        rw [if_neg (by simpa using he1)] at HOp
        obtain ⟨S2, hS2, hs2, hj2, ho2⟩ := HV2.out
        have hna2 : ¬ S2 w.heap.size := fun h => by rcases hS2 _ h with h | h; exact HNA.out h; omega
        have CK := Lib.hid (ckp_any hj2 hs2 hna2 (by rw [HK.out.1]; exact HK.out.2.1) (by have := HK.out.2.2; omega))
        have HV3 : Hid (∀ w3 D3 J3, JLeaves 79 S2 w2 w3 w.heap.size p D3 J3 → JLeaves 79 S X w3 w.heap.size p D3 J3) := fun w3 D3 J3 h => JLeaves.next hS2 ho2 h
        clear hS2 hs2 hj2 ho2 hna2 HV2
        generalize J1.ckp D1 = R2 at *
        obtain ⟨er2, D2, J2⟩ := R2
        simp only at HOp CK
        go_wp2_with fail
        refine CK.out.mono ?_
        rintro e w3 ⟨rfl, hv3⟩
        have HV := Lib.hid (HV3.out _ _ _ hv3)
        clear hv3 CK HV3
        by_cases he2 : er2 = 0
        · have he2' : (er2 != 0) = false := by simp [he2]
          rw [if_neg (by simpa using he2)] at HOp
          go_wp2
          go_ret2
          obtain ⟨S3, h1, h2, h3, h4, h5⟩ := opened_of HD.out HXB.out hXz HV.out
          unfold Opened
          rw [HOp.out]
          exact ⟨S3, h1, h2, h3, w.heap.size, rfl, Nat.le_refl _, h4, h5⟩
        · have he2' : (er2 != 0) = true := by simp [he2]
          rw [if_pos (by simpa using he2)] at HOp
          go_wp2
          go_ret2
          obtain ⟨S3, h1, h2, h3, h4, h5⟩ := opened_of HD.out HXB.out hXz HV.out
          unfold Opened
          rw [HOp.out]
          exact ⟨S3, h1, h2, h3, rfl⟩
      · have he1' : (er1 != 0) = true := by simp [he1]
        rw [if_pos (by simpa using he1)] at HOp
        go_wp2
        go_ret2
        obtain ⟨S3, h1, h2, h3, h4, h5⟩ := opened_of HD.out HXB.out hXz HV2.out
        unfold Opened
        rw [HOp.out]
        exact ⟨S3, h1, h2, h3, rfl⟩
end
end Go.Proofs.YtepfcaopboenpaaGreat
/- Journals on a device, in plain lists: what lies there when all is well; what a slot and a head are when they are torn; what is found and done by Open. -/
namespace Go.Proofs.YtepfcaopboenpaaGreat
open Go.RowKit
open Fr (bs fixL nmAt headB topL unp WrOk packL)

abbrev Wr := Int × ByteArray
/-- A block of a disk. -/
def gd (d : List ByteArray) (b : Nat) : ByteArray := d.getD b ByteArray.empty
def natW (W : List Wr) : List (Nat × ByteArray) := W.map fun x => (x.1.toNat, x.2)

section lay
variable {f : Nat → Nat} {P Q : List (Nat × ByteArray)} {disk : List ByteArray}
theorem laid_left (k : Nat) (hk : k ≤ P.length) : laidTo f (P ++ Q) disk k = laidTo f P disk k := by
  induction k with
  | zero => rfl
  | succ k ih =>
    rw [laidTo_succ f (P ++ Q) disk k (by rw [List.length_append]; omega), laidTo_succ f P disk k (by omega), ih (by omega), List.getElem_append_left (by omega)]
theorem laid_snoc (x : Nat × ByteArray) : laidTo f (P ++ [x]) disk (P ++ [x]).length = layOne (laidTo f P disk P.length) x (f P.length) := by
  rw [show (P ++ [x]).length = P.length + 1 by simp, laidTo_succ f (P ++ [x]) disk P.length (by simp), laid_left _ (Nat.le_refl _)]
  congr 1
  simp
theorem gd_layOne (d : List ByteArray) (x : Nat × ByteArray) (m b : Nat) (h : x.1 ≠ b) : gd (layOne d x m) b = gd d b := by
  unfold gd layOne; simp [List.getD, h]
theorem laid_other (b k : Nat) (h : ∀ x ∈ P, x.1 ≠ b) : gd (laidTo f P disk k) b = gd disk b := by
  induction k with
  | zero => rfl
  | succ k ih =>
    by_cases hk : k < P.length
    · rw [laidTo_succ f P disk k hk, gd_layOne _ _ _ _ (h _ (List.getElem_mem hk)), ih]
    · have e : laidTo f P disk (k + 1) = laidTo f P disk k := by rw [laidTo]; simp [List.getElem?_eq_none (Nat.le_of_not_lt hk)]
      rw [e, ih]
theorem laid_one (b : Nat) (x : ByteArray) (h : ∀ y ∈ P, y.1 ≠ b) (hb : b < disk.length) : gd (laidTo f (P ++ [(b, x)]) disk (P ++ [(b, x)]).length) b = layB x (gd disk b) (f P.length) := by
  rw [laid_snoc]
  have e := laid_other (f := f) (disk := disk) b P.length h
  unfold gd layOne at *
  rw [e]
  simp [List.getD, laidTo_length, hb]
end lay

theorem DevS.Ok.flushed {D : DevS} (ok : D.Ok) (b : Nat) (hb : b < D.disk.length) : gd (laidTo (fun _ => 256) D.pend D.disk D.pend.length) b = D.rdB b := by
  have := (laidTo_get (fun _ => 256) D.pend D.disk D.pend.length b (Nat.le_refl _) (fun _ _ => rfl) hb ok.whole ok.pends).1
  unfold gd DevS.rdB
  rw [this, List.take_length]
  try rfl
theorem rdB_none {D : DevS} (b : Nat) (h : ∀ x ∈ D.pend, x.1 ≠ b) : D.rdB b = gd D.disk b := by
  unfold DevS.rdB gd
  have : D.pend.reverse.find? (fun x => x.1 == b) = none := by
    rw [List.find?_eq_none]; intro x hx; have := h x (List.mem_reverse.1 hx); simpa using this
  rw [this]

/-! ### What a device does with writes -/
/-- Writes that the device takes. -/
def Fit (n : Nat) (W : List Wr) : Prop := ∀ x ∈ W, 0 ≤ x.1 ∧ x.1 < n ∧ x.2.size = 256
theorem natW_append (A B : List Wr) : natW (A ++ B) = natW A ++ natW B := by unfold natW; rw [List.map_append]

/-- Behind writes: all are pending and the power is there, or some first ones are and it is gone. -/
structure Wrote (D D' : DevS) (W : List Wr) (e : Int) (k : Nat) : Prop where
  le : k ≤ W.length
  disk : D'.disk = D.disk
  pend : D'.pend = D.pend ++ natW (W.take k)
  how : (e = 0 ∧ k = W.length ∧ D'.dead = false) ∨ (e = 4 ∧ D'.dead = true)
theorem wr_cases (D : DevS) (hde : D.dead = false) (x : Wr) (h : 0 ≤ x.1 ∧ x.1 < D.disk.length ∧ x.2.size = 256) : ∃ k, Wrote D (D.wr x.1 x.2).2 [x] (D.wr x.1 x.2).1 k := by
  have hck : D.ck x.1 = 0 := by unfold DevS.ck; rw [hde]; simp; omega
  by_cases ht : D.tk.1 = false
  · have e : D.wr x.1 x.2 = (4, D.tk.2) := by unfold DevS.wr; simp [hck, h.2.2, ht]
    rw [e]
    refine ⟨0, Nat.zero_le _, D.tk_disk, by simp [D.tk_pend, natW], .inr ⟨rfl, ?_⟩⟩
    unfold DevS.tk at ht ⊢
    split
    · rename_i h1; rw [if_pos h1] at ht; cases ht
    · split
      · rfl
      · rename_i h1 h2; rw [if_neg h1, if_neg h2] at ht; cases ht
  · have ht' : D.tk.1 = true := by simpa using ht
    have e : D.wr x.1 x.2 = (0, { D.tk.2 with pend := D.pend ++ [(x.1.toNat, x.2)] }) := by unfold DevS.wr; simp [hck, h.2.2, ht]
    rw [e]
    exact ⟨1, Nat.le_refl _, D.tk_disk, by simp [natW], .inl ⟨rfl, rfl, by show D.tk.2.dead = false; rw [D.tk_dead ht', hde]⟩⟩
theorem wrs_cases (W : List Wr) : ∀ (D : DevS), D.dead = false → Fit D.disk.length W → ∃ k, Wrote D (D.wrs W).2 W (D.wrs W).1 k := by
  induction W with
  | nil => intro D hde _; exact ⟨0, Nat.le_refl _, rfl, by simp [natW, DevS.wrs], .inl ⟨rfl, rfl, hde⟩⟩
  | cons x r ih =>
    intro D hde hf
    obtain ⟨k, hk⟩ := wr_cases D hde x (hf x (List.mem_cons_self ..))
    unfold DevS.wrs
    rcases hk.how with ⟨h0, h1, h2⟩ | ⟨h0, h1⟩
    · rw [if_neg (by rw [h0]; simp)]
      obtain ⟨k', hk'⟩ := ih (D.wr x.1 x.2).2 h2 (fun y hy => by rw [hk.disk]; exact hf y (List.mem_cons_of_mem _ hy))
      have e1 : (D.wr x.1 x.2).2.pend = D.pend ++ natW [x] := by rw [hk.pend, h1]; rfl
      refine ⟨k' + 1, by simpa using hk'.le, hk'.disk.trans hk.disk, ?_, ?_⟩
      · rw [hk'.pend, e1, List.take_succ_cons, List.append_assoc, ← natW_append]; rfl
      · rcases hk'.how with ⟨a, b, c⟩ | ⟨a, b⟩
        · exact .inl ⟨a, by rw [b]; rfl, c⟩
        · exact .inr ⟨a, b⟩
    · rw [if_pos (by rw [h0]; simp)]
      refine ⟨0, Nat.zero_le _, hk.disk, ?_, .inr ⟨h0, h1⟩⟩
      have : k = 0 ∨ k = 1 := by have := hk.le; simp at this; omega
      rcases this with rfl | rfl
      · rw [hk.pend]; simp [natW]
      · exfalso
        have hw := hk.pend
        have : (D.wr x.1 x.2).2.pend.length ≤ D.pend.length := by
          unfold DevS.wr at h0 ⊢
          split
          · exact Nat.le_refl _
          · split
            · exact Nat.le_refl _
            · split
              · rw [DevS.tk_pend]; exact Nat.le_refl _
              · rename_i a b c; rw [if_neg a, if_neg b, if_neg c] at h0; cases h0
        rw [hw] at this
        simp [natW] at this
        omega
theorem fl_cases (D : DevS) : (D.fl.1 = 0 ∧ D.fl.2.dead = false ∧ D.fl.2.disk = laidTo (fun _ => 256) D.pend D.disk D.pend.length ∧ D.fl.2.pend = []) ∨ (D.fl.1 = 4 ∧ D.fl.2.dead = true ∧ D.fl.2.disk = D.disk ∧ D.fl.2.pend = D.pend) := by
  by_cases hd : D.dead = true
  · have e : D.fl = (4, D) := by unfold DevS.fl; rw [if_pos hd]
    rw [e]; exact .inr ⟨rfl, hd, rfl, rfl⟩
  · by_cases ht : D.tk.1 = false
    · have e : D.fl = (4, D.tk.2) := by unfold DevS.fl; rw [if_neg hd, if_pos ht]
      rw [e]
      refine .inr ⟨rfl, ?_, D.tk_disk, D.tk_pend⟩
      unfold DevS.tk at ht ⊢
      split
      · rename_i h1; rw [if_pos h1] at ht; cases ht
      · split
        · rfl
        · rename_i h1 h2; rw [if_neg h1, if_neg h2] at ht; cases ht
    · have e : D.fl = (0, { D.tk.2 with disk := laidTo (fun _ => 256) D.pend D.disk D.pend.length, pend := [] }) := by unfold DevS.fl; rw [if_neg hd, if_neg ht]
      rw [e]
      exact .inl ⟨rfl, by show D.tk.2.dead = false; rw [D.tk_dead (by simpa using ht)]; simpa using hd, rfl, rfl⟩
/-- Behind writes and a flush. -/
theorem stl_cases (D : DevS) (W : List Wr) (hde : D.dead = false) (hf : Fit D.disk.length W) :
    ((D.stl W).1 = 0 ∧ (D.stl W).2.dead = false ∧ (D.stl W).2.disk = laidTo (fun _ => 256) (D.pend ++ natW W) D.disk (D.pend ++ natW W).length ∧ (D.stl W).2.pend = []) ∨
    ((D.stl W).1 = 4 ∧ (D.stl W).2.dead = true ∧ (D.stl W).2.disk = D.disk ∧ ∃ k, k ≤ W.length ∧ (D.stl W).2.pend = D.pend ++ natW (W.take k)) := by
  obtain ⟨k, hk⟩ := wrs_cases W D hde hf
  unfold DevS.stl
  rcases hk.how with ⟨h0, h1, h2⟩ | ⟨h0, h1⟩
  · rw [if_neg (by rw [h0]; simp)]
    have e : (D.wrs W).2.pend = D.pend ++ natW W := by rw [hk.pend, h1, List.take_length]
    rcases fl_cases (D.wrs W).2 with ⟨a, b, c, d⟩ | ⟨a, b, c, d⟩
    · exact .inl ⟨a, b, by rw [c, e, hk.disk], d⟩
    · exact .inr ⟨a, b, by rw [c, hk.disk], W.length, Nat.le_refl _, by rw [d, e, List.take_length]⟩
  · rw [if_pos (by rw [h0]; simp)]
    exact .inr ⟨h0, h1, hk.disk, k, hk.le, hk.pend⟩

/-! ### Slots -/
theorem layB_list (x old : ByteArray) (m : Nat) : (layB x old m).data.toList = x.data.toList.take m ++ old.data.toList.drop m := by
  unfold layB
  rw [ByteArray.data_append, Array.toList_append, ByteArray.data_extract, ByteArray.data_extract, Array.toList_extract, Array.toList_extract]
  simp only [List.extract_eq_take_drop, List.drop_zero, Nat.sub_zero]
  congr 1
  apply List.take_of_length_le
  simp
theorem half_at (e s log p : Nat) (he : e < 18446744073709551616) (hs : s < 18446744073709551616) (hl : log < 4294967296) (hp : p < 4294967296) (Z : List UInt8) :
    wideAt (halfL e s log p ++ Z) 4 = e ∧ wideAt (halfL e s log p ++ Z) 12 = s ∧ nmAt (halfL e s log p ++ Z) 20 = log ∧ nmAt (halfL e s log p ++ Z) 24 = p := by
  have hA : halfL e s log p ++ Z = [67, 68, 88, 83] ++ (fixL (e % 4294967296) ++ (fixL (e / 4294967296) ++ (fixL (s % 4294967296) ++ (fixL (s / 4294967296) ++ (fixL log ++ (fixL p ++ (List.replicate 100 0 ++ Z))))))) := by
    unfold halfL; simp only [List.append_assoc]
  rw [hA]
  have st (A B : List UInt8) (i : Nat) (h : A.length = 4) : nmAt (A ++ B) (4 + i) = nmAt B i := by rw [← h]; exact Fr.nmAt_right A B i
  have f (v : Nat) (B : List UInt8) (i : Nat) : nmAt (fixL v ++ B) (4 + i) = nmAt B i := st _ _ _ (Fr.fixL_len v)
  refine ⟨?_, ?_, ?_, ?_⟩
  · unfold wideAt
    rw [show (4 : Nat) = 4 + 0 from rfl, st _ _ 0 rfl, Fr.nmAt_fix _ _ (by omega), show (4 + 0 + (4 + 0) : Nat) = 4 + (4 + 0) from rfl, st _ _ _ rfl, f, Fr.nmAt_fix _ _ (by omega)]
    omega
  · unfold wideAt
    rw [show (12 : Nat) = 4 + (4 + (4 + 0)) from rfl, st _ _ _ rfl, f, f, Fr.nmAt_fix _ _ (by omega), show (4 + (4 + (4 + 0)) + 4 : Nat) = 4 + (4 + (4 + (4 + 0))) from rfl, st _ _ _ rfl, f, f, f, Fr.nmAt_fix _ _ (by omega)]
    omega
  · rw [show (20 : Nat) = 4 + (4 + (4 + (4 + (4 + 0)))) from rfl, st _ _ _ rfl, f, f, f, f, Fr.nmAt_fix _ _ (by omega)]
  · rw [show (24 : Nat) = 4 + (4 + (4 + (4 + (4 + (4 + 0))))) from rfl, st _ _ _ rfl, f, f, f, f, f, Fr.nmAt_fix _ _ (by omega)]
theorem rdSlot_slotB (e s log p n : Nat) (he : e < 18446744073709551616) (hs : s < 18446744073709551616) (h1 : 50 ≤ log) (h2 : log + 3 ≤ n) (hn : n ≤ 4096) (hp : p < log) : rdSlot (slotB e s log p) n = some (e, s, log, p) := by
  obtain ⟨a, b, c, d⟩ := half_at e s log p he hs (by omega) (by omega) (halfL e s log p)
  have hl : (slotB e s log p).data.toList = halfL e s log p ++ halfL e s log p := rfl
  refine (rdSlot_iff _ _ _).2 ?_
  rw [hl, a, b, c, d]
  exact ⟨⟨h1, h2, hp, rfl⟩, rfl⟩
theorem half_inj {e s log p e' s' log' p' : Nat} (he : e < 18446744073709551616) (hs : s < 18446744073709551616) (hl : log < 4294967296) (hp : p < 4294967296)
    (he' : e' < 18446744073709551616) (hs' : s' < 18446744073709551616) (hl' : log' < 4294967296) (hp' : p' < 4294967296) (h : halfL e s log p = halfL e' s' log' p') : e = e' ∧ s = s' ∧ log = log' ∧ p = p' := by
  obtain ⟨a, b, c, d⟩ := half_at e s log p he hs hl hp []
  obtain ⟨a', b', c', d'⟩ := half_at e' s' log' p' he' hs' hl' hp' []
  rw [h] at a b c d
  exact ⟨a.symm.trans a', b.symm.trans b', c.symm.trans c', d.symm.trans d'⟩
/-- A right slot's own bytes. -/
theorem rdSlot_bytes {t : ByteArray} {n : Nat} {x : Nat × Nat × Nat × Nat} (h : rdSlot t n = some x) : t = slotB x.1 x.2.1 x.2.2.1 x.2.2.2 := by
  obtain ⟨⟨_, _, _, h2⟩, rfl⟩ := (rdSlot_iff t n x).1 h
  exact h2
/-- A slot that is torn is whole, or bears another half behind. -/
theorem torn_slot (e s log p n m : Nat) (old : ByteArray) (he : e < 18446744073709551616) (hs : s < 18446744073709551616) (h2 : log + 3 ≤ n) (hn : n ≤ 4096) (hp : p < log) (x : Nat × Nat × Nat × Nat)
    (h : rdSlot (layB (slotB e s log p) old m) n = some x) : x = (e, s, log, p) ∨ old.data.toList.drop 128 = halfL x.1 x.2.1 x.2.2.1 x.2.2.2 := by
  have hx := rdSlot_bytes h
  obtain ⟨x0, x1, x2, x3, x4⟩ := rdSlot_ok h
  obtain ⟨xe, xs, xl, xp⟩ := x
  simp only at hx x0 x1 x2 x3 x4 ⊢
  have hX := congrArg (fun b : ByteArray => b.data.toList) hx
  rw [layB_list] at hX
  have hN : (slotB e s log p).data.toList = halfL e s log p ++ halfL e s log p := rfl
  have hM : (slotB xe xs xl xp).data.toList = halfL xe xs xl xp ++ halfL xe xs xl xp := rfl
  have hlN := halfL_len e s log p
  have hlX := halfL_len xe xs xl xp
  rw [hN, hM] at hX
  by_cases hm : m ≤ 128
  · right
    have := congrArg (List.drop 128) hX
    rw [List.drop_append, List.length_take, List.length_append, hlN, List.drop_left' hlX, List.drop_of_length_le (by rw [List.length_take, List.length_append, hlN]; omega), List.nil_append, List.drop_drop] at this
    rw [← this]; congr 1; omega
  · left
    have := congrArg (List.take 128) hX
    rw [List.take_left' hlX, List.take_append, List.length_take, List.length_append, hlN, List.take_take, show min 128 m = 128 by omega, List.take_left' hlN, show 128 - min m (128 + 128) = 0 by omega, List.take_zero, List.append_nil] at this
    obtain ⟨a, b, c, d⟩ := half_inj he hs (by omega) (by omega) x3 x4 (by omega) (by omega) this
    rw [a, b, c, d]
theorem layB_twice (x old : ByteArray) (m k : Nat) (hx : x.size = 256) (hm : m ≤ 256) : layB x (layB x old m) k = layB x old (max m k) := by
  apply ByteArray.ext
  apply Array.ext'
  rw [layB_list, layB_list, layB_list]
  have hl : x.data.toList.length = 256 := by rw [Fr.str_len, hx]
  rw [List.drop_append, List.length_take, hl, show min m 256 = m by omega]
  by_cases h : m ≤ k
  · rw [show max m k = k by omega, List.drop_of_length_le (by rw [List.length_take]; omega), List.nil_append, List.drop_drop]
    congr 2; omega
  · rw [show max m k = m by omega, show k - m = 0 by omega, List.drop_zero, ← List.append_assoc]
    congr 1
    rw [List.drop_take]
    conv => rhs; rw [show m = k + (m - k) by omega]
    rw [List.take_add]
/-- The block's second half is no slot's of a number that is not less. -/
def Older (o : ByteArray) (e : Nat) : Prop := o.size = 256 ∧ ∀ a b c d, a < 18446744073709551616 → b < 18446744073709551616 → c < 4294967296 → d < 4294967296 → o.data.toList.drop 128 = halfL a b c d → a < e
theorem older_slot (e s log p : Nat) (he : e < 18446744073709551616) (hs : s < 18446744073709551616) (hl : log < 4294967296) (hp : p < 4294967296) : Older (slotB e s log p) (e + 1) := by
  refine ⟨slotB_size _ _ _ _, fun a b c d ha hb hc hd h => ?_⟩
  have hN : (slotB e s log p).data.toList = halfL e s log p ++ halfL e s log p := rfl
  rw [hN, List.drop_left' (halfL_len ..)] at h
  have := (half_inj he hs hl hp ha hb hc hd h).1
  omega
theorem older_noughts (e : Nat) : Older noughts e := by
  refine ⟨noughts_size, fun a b c d _ _ _ _ h => ?_⟩
  have : noughts.data.toList.drop 128 = List.replicate 128 0 := by decide +kernel
  rw [this] at h
  have := congrArg (fun l : List UInt8 => l.getD 0 0) h
  simp [halfL] at this

/-! ### Heads -/
theorem headB_noughts : headB noughts.data.toList = false := by decide +kernel
theorem headB_begin (l : List UInt8) (h : l.getD 0 0 ≠ 67) : headB l = false := by
  cases hb : headB l with
  | false => rfl
  | true =>
    have h2 := ((Fr.headB_iff l).1 hb).2.1
    have := congrArg (fun l : List UInt8 => l.getD 0 0) h2
    simp only [Fr.cdxt] at this
    rw [Fr.getD_take _ _ _ (by omega)] at this
    exact absurd this h
theorem headB_end (l : List UInt8) (h : l.getD 255 0 ≠ 69) : headB l = false := by
  cases hb : headB l with
  | false => rfl
  | true =>
    have h2 := ((Fr.headB_iff l).1 hb).2.2.1
    have := congrArg (fun l : List UInt8 => l.getD 3 0) h2
    simp only [Fr.cdxe] at this
    rw [Fr.getD_drop] at this
    exact absurd this h
theorem noughts_at (i : Nat) : noughts.data.toList.getD i 0 = 0 := by
  have : noughts.data.toList = List.replicate 256 0 := by rw [noughts_bs]; rfl
  rw [this]
  simp only [List.getD, List.getElem?_replicate]
  split <;> rfl
theorem drop_getD (l : List UInt8) (k i : Nat) : (l.drop k).getD i 0 = l.getD (k + i) 0 := by simp [List.getD]
/-- A head that is torn, over noughts, is none. -/
theorem torn_head (x : ByteArray) (m : Nat) (hx : x.size = 256) (hm : m < 256) : headB (layB x noughts m).data.toList = false := by
  apply headB_end
  rw [layB_list]
  have hl : (x.data.toList.take m).length = m := by rw [List.length_take, Fr.str_len, hx]; omega
  rw [show (255 : Nat) = (x.data.toList.take m).length + (255 - m) by omega, Fr.getD_right, drop_getD, noughts_at]
  decide
/-- Noughts that are torn, over what is no head, are none. -/
theorem torn_noughts (old : ByteArray) (m : Nat) (h : headB old.data.toList = false) : headB (layB noughts old m).data.toList = false := by
  cases m with
  | zero => rw [layB_none]; exact h
  | succ m =>
    apply headB_begin
    rw [layB_list]
    rw [Fr.getD_left _ _ _ (by rw [List.length_take, Fr.str_len, noughts_size]; omega), Fr.getD_take _ _ _ (by omega), noughts_at]
    decide
end Go.Proofs.YtepfcaopboenpaaGreat
/- What lies on a device with a journal when all is well, what Open finds there and does, in plain lists. -/
namespace Go.Proofs.YtepfcaopboenpaaGreat
open Go.RowKit
open Fr (bs fixL nmAt headB topL unp WrOk packL)

theorem chk_log {J K : JS} (h : J.log = K.log) (n : Nat) (f : List (Int × ByteArray)) : J.chk n f = K.chk n f := by
  have h1 : ∀ x, J.chk1 n x = K.chk1 n x := fun x => by unfold JS.chk1 JS.home; rw [h]
  have h2 : J.chkL n f = K.chkL n f := by
    induction f with
    | nil => rfl
    | cons x f ih => unfold JS.chkL; rw [h1, ih]
  unfold JS.chk; rw [h2]
/-- How many blocks frames have. -/
def fsz : List (List Wr) → Nat
  | [] => 0
  | f :: F => f.length + 1 + fsz F
theorem fsz_append (A B : List (List Wr)) : fsz (A ++ B) = fsz A + fsz B := by
  induction A with
  | nil => simp [fsz]
  | cons f A ih => simp only [List.cons_append, fsz, ih]; omega
/-- Frames lie in the log from an offset on. -/
def LaidF (g : Nat → ByteArray) (log p : Nat) : Nat → Nat → List (List Wr) → Prop
  | _, _, [] => True
  | o, s, f :: F => g (2 + (p + o) % log) = bs (topL s f) ∧ (∀ j (h : j < f.length), g (2 + (p + o + (j + 1)) % log) = f[j].2) ∧ LaidF g log p (o + (f.length + 1)) (s + 1) F
theorem LaidF.congr {g g' : Nat → ByteArray} {log p : Nat} : ∀ {F : List (List Wr)} {o s : Nat}, LaidF g log p o s F → (∀ i, o ≤ i → i < o + fsz F → g' (2 + (p + i) % log) = g (2 + (p + i) % log)) → LaidF g' log p o s F
  | [], _, _, _, _ => trivial
  | f :: F, o, s, h, hg => by
    obtain ⟨h1, h2, h3⟩ := h
    have e : fsz (f :: F) = f.length + 1 + fsz F := rfl
    refine ⟨by rw [hg o (Nat.le_refl _) (by omega)]; exact h1, fun j hj => ?_, LaidF.congr h3 (fun i hi hl => hg i (by omega) (by omega))⟩
    have := hg (o + (j + 1)) (by omega) (by omega)
    rw [← Nat.add_assoc] at this
    rw [this]; exact h2 j hj
theorem LaidF.snoc {g : Nat → ByteArray} {log p : Nat} (W : List Wr) : ∀ {F : List (List Wr)} {o s : Nat}, LaidF g log p o s F → g (2 + (p + (o + fsz F)) % log) = bs (topL (s + F.length) W) → (∀ j (h : j < W.length), g (2 + (p + (o + fsz F) + (j + 1)) % log) = W[j].2) → LaidF g log p o s (F ++ [W])
  | [], o, s, _, h1, h2 => ⟨h1, h2, trivial⟩
  | f :: F, o, s, h, h1, h2 => by
    obtain ⟨a, b, c⟩ := h
    have e : fsz (f :: F) = f.length + 1 + fsz F := rfl
    refine ⟨a, b, LaidF.snoc W c ?_ ?_⟩
    · rw [show o + (f.length + 1) + fsz F = o + fsz (f :: F) by rw [e]; omega, h1]
      congr 2; simp; omega
    · intro j hj
      rw [show o + (f.length + 1) + fsz F = o + fsz (f :: F) by rw [e]; omega]
      exact h2 j hj
theorem mod_ne (p log a b : Nat) (ha : a < log) (hb : b < log) (h : a ≠ b) : (p + a) % log ≠ (p + b) % log := by
  intro e
  have : a % log = b % log := by
    have h1 : (p + a) % log = (p % log + a % log) % log := Nat.add_mod p a log
    have h2 : (p + b) % log = (p % log + b % log) % log := Nat.add_mod p b log
    rw [h1, h2, Nat.mod_eq_of_lt ha, Nat.mod_eq_of_lt hb] at e
    have hp := Nat.mod_lt p (show 0 < log by omega)
    generalize p % log = q at *
    by_cases c1 : q + a < log
    · by_cases c2 : q + b < log
      · rw [Nat.mod_eq_of_lt c1, Nat.mod_eq_of_lt c2] at e; omega
      · rw [Nat.mod_eq_of_lt c1, Nat.mod_eq_sub_mod (by omega), Nat.mod_eq_of_lt (by omega)] at e; omega
    · by_cases c2 : q + b < log
      · rw [Nat.mod_eq_of_lt c2, Nat.mod_eq_sub_mod (by omega), Nat.mod_eq_of_lt (show q + a - log < log by omega)] at e; omega
      · rw [Nat.mod_eq_sub_mod (show q + a ≥ log by omega), Nat.mod_eq_of_lt (show q + a - log < log by omega), Nat.mod_eq_sub_mod (show q + b ≥ log by omega), Nat.mod_eq_of_lt (show q + b - log < log by omega)] at e; omega
  rw [Nat.mod_eq_of_lt ha, Nat.mod_eq_of_lt hb] at this
  exact h this

/-- The slot that the next checkpoint writes. -/
def JS.tgt (J : JS) : ByteArray := slotB (J.e + 1) J.next J.log (J.pos 0 - 2)
structure Good (N : Nat) (g : Nat → ByteArray) (n : Nat) (J : JS) (F : List (List Wr)) : Prop where
  ok : J.Ok n
  n4 : n ≤ 4096
  lg : J.log = 50
  big : N < 1000000
  bnd : J.e ≤ N ∧ J.next ≤ N
  next : J.next = J.s + F.length
  full : J.full = fsz F
  room : J.full + 1 ≤ J.log
  here : g J.side = slotB J.e J.s J.log J.p
  other : ∃ old m, m ≤ 256 ∧ Older old J.e ∧ g (1 - J.side) = layB J.tgt old m ∧ g (1 - J.side) ≠ J.tgt
  laid : LaidF g J.log J.p 0 J.s F
  fine : ∀ f ∈ F, J.chk n f = 0
  stop : headB (g (J.pos 0)).data.toList = false

section
variable {N n : Nat} {g g' : Nat → ByteArray} {J : JS} {F : List (List Wr)}
/-- What lies elsewhere does not matter. -/
theorem Good.change (h : Good N g n J F) (h0 : g' J.side = g J.side) (h1 : g' (1 - J.side) = g (1 - J.side)) (hl : ∀ o, o ≤ J.full → g' (2 + (J.p + o) % J.log) = g (2 + (J.p + o) % J.log)) : Good N g' n J F := by
  refine ⟨h.ok, h.n4, h.lg, h.big, h.bnd, h.next, h.full, h.room, h0.trans h.here, ?_, ?_, h.fine, ?_⟩
  · rw [h1]; exact h.other
  · exact h.laid.congr (fun i _ hi => hl i (by rw [h.full]; omega))
  · have := hl J.full (Nat.le_refl _)
    unfold JS.pos
    rw [Nat.add_zero, this]
    exact h.stop
theorem Good.more (h : Good N g n J F) {M : Nat} (hM : N ≤ M) (hb : M < 1000000) : Good M g n J F :=
  ⟨h.ok, h.n4, h.lg, hb, ⟨Nat.le_trans h.bnd.1 hM, Nat.le_trans h.bnd.2 hM⟩, h.next, h.full, h.room, h.here, h.other, h.laid, h.fine, h.stop⟩
theorem Good.other_lt (h : Good N g n J F) (x : Nat × Nat × Nat × Nat) (hx : rdSlot (g (1 - J.side)) n = some x) : x.1 < J.e := by
  obtain ⟨old, m, hm, ho, he, hne⟩ := h.other
  have hb := h.bnd; have hbig := h.big
  have hp := h.ok.pos_lt 0
  have h1 := h.ok.l1; have h4 := h.n4
  have hx' := hx
  rw [he] at hx
  unfold JS.tgt at hx
  rcases torn_slot (J.e + 1) J.next J.log (J.pos 0 - 2) n m old (by omega) (by omega) h1 h4 (by omega) x hx with e | e
  · have := rdSlot_bytes hx'
    rw [e] at this
    exact absurd this hne
  · obtain ⟨x0, x1, x2, x3, x4⟩ := rdSlot_ok hx
    exact ho.2 x.1 x.2.1 x.2.2.1 x.2.2.2 x3 x4 (by omega) (by omega) e
end

section
variable {N n : Nat} {J : JS} {D : DevS} {F : List (List Wr)}
/-- As Open takes a journal up. -/
def JS.fresh (J : JS) : JS := { J with next := J.s, full := 0 }
theorem find_good (h : Good N (gd D.disk) n J F) (hn : D.disk.length = n) (hp : D.pend = []) : D.find = some J.fresh := by
  have hlog := h.ok.l0; have h1 := h.ok.l1
  have hrd : ∀ i, i < D.disk.length → D.slotAt i = rdSlot (gd D.disk i) n := by
    intro i hi
    unfold DevS.slotAt
    rw [if_pos hi, rdB_none i (by rw [hp]; intro x hx; cases hx), hn]
  have hs := h.ok.si
  have hh : D.slotAt J.side = some (J.e, J.s, J.log, J.p) := by
    rw [hrd _ (by omega), h.here]
    exact rdSlot_slotB _ _ _ _ _ h.ok.e64 h.ok.s64 hlog h1 h.n4 h.ok.pl
  have ho : ∀ x, D.slotAt (1 - J.side) = some x → x.1 < J.e := by
    intro x hx
    rw [hrd _ (by omega)] at hx
    exact h.other_lt x hx
  have hj : slotJ (J.e, J.s, J.log, J.p) J.side = J.fresh := rfl
  unfold DevS.find
  rcases Nat.lt_or_ge 0 J.side with h0 | h0
  · have e : J.side = 1 := by omega
    rw [e] at hh ho hj
    rw [show 1 - 1 = 0 from rfl] at ho
    rw [hh]
    cases h00 : D.slotAt 0 with
    | none => simp only; rw [hj]
    | some x =>
      simp only
      rw [if_pos (ho x h00), hj]
  · have e : J.side = 0 := by omega
    rw [e] at hh ho hj
    rw [hh]
    cases h11 : D.slotAt 1 with
    | none => simp only; rw [hj]
    | some x =>
      have := ho x h11
      simp only
      rw [if_neg (by omega), hj]

theorem frame_laid {g : Nat → ByteArray} {f : List Wr} (hn : D.disk.length = n) (h4 : n ≤ 4096) (ok : J.Ok n) (hrd : ∀ b, 2 ≤ b → b < 2 + J.log → D.rdB b = g b) (hl : LaidF g J.log J.p J.full J.next (f :: F)) (hf : J.chk n f = 0) (hr : J.full + (f.length + 1) ≤ J.log) : J.frameOf D = some f := by
  obtain ⟨a, b, _⟩ := hl
  obtain ⟨l1, l2, hw⟩ := (J.chk_ok n f).1 hf
  have hw' : ∀ x ∈ f, Fr.WrOk x := fun x hx => JS.wrok_frame h4 (hw x hx)
  have hp0 := ok.pos_lt 0
  have e0 : D.rdB (J.pos 0) = bs (topL J.next f) := by
    rw [hrd _ hp0.1 hp0.2]
    show g (2 + (J.p + J.full + 0) % J.log) = _
    rw [Nat.add_zero]; exact a
  obtain ⟨t1, t2, t3, _⟩ := Fr.top_parts J.next f ok.n64 l1 l2 hw'
  have ed : (D.rdB (J.pos 0)).data.toList = topL J.next f := by rw [e0]; rfl
  have ef : J.frameAt D = packL J.next f := by
    unfold JS.frameAt packL
    rw [ed, t2, e0]
    congr 1
    apply List.ext_getElem
    · simp
    · intro i h1 h2
      have hi : i < f.length := by simpa using h1
      simp only [List.getElem_map, List.getElem_range]
      have hpi := ok.pos_lt (i + 1)
      rw [hrd _ hpi.1 hpi.2]
      exact b i hi
  have hu := Fr.unp_pack J.next f [] ok.n64 l1 l2 hw'
  rw [List.append_nil] at hu
  unfold JS.frameOf
  rw [ef, hu, ed, hn, if_pos ⟨t1, by rw [t2]; unfold JS.left; omega, rfl, rfl, hf⟩]

/-- A journal behind some frames more. -/
def JS.after (J : JS) (F : List (List Wr)) : JS := { J with next := J.next + F.length, full := J.full + fsz F }
theorem redo_laid {g : Nat → ByteArray} (h4 : n ≤ 4096) : ∀ (F : List (List Wr)) (J : JS) (D : DevS) (m : Nat), D.disk.length = n → D.dead = false → J.Ok n → (∀ b, b < 2 + J.log → gd D.disk b = g b) → (∀ x ∈ D.pend, J.home ≤ x.1) →
    LaidF g J.log J.p J.full J.next F → (∀ f ∈ F, J.chk n f = 0) → J.full + fsz F ≤ J.log → J.next + F.length < 18446744073709551616 → headB (g (2 + (J.p + (J.full + fsz F)) % J.log)).data.toList = false → F.length < m →
    ∃ J', J.redoN D m = ((D.wrs F.flatten).1, (D.wrs F.flatten).2, J') ∧ ((D.wrs F.flatten).1 = 0 → J' = J.after F) := by
  intro F
  induction F with
  | nil =>
    intro J D m hn hde ok hg hp hl hf hr hx hs hm
    obtain ⟨m, rfl⟩ : ∃ k, m = k + 1 := ⟨m - 1, by simp at hm; omega⟩
    have hp0 := ok.pos_lt 0
    have e0 : D.rdB (J.pos 0) = g (J.pos 0) := by
      rw [rdB_none _ (fun x hx => by have := hp x hx; unfold JS.home at this; omega)]
      exact hg _ hp0.2
    have hnone : J.frameOf D = none := by
      unfold JS.frameOf
      rw [if_neg]
      intro hc
      rw [e0] at hc
      have : J.pos 0 = 2 + (J.p + (J.full + fsz [])) % J.log := by unfold JS.pos fsz; rfl
      rw [← this] at hs
      rw [hs] at hc
      exact absurd hc.1 (by simp)
    exact ⟨J, redoN_none m hnone, fun _ => by unfold JS.after fsz; simp⟩
  | cons f F ih =>
    intro J D m hn hde ok hg hp hl hf hr hx hs hm
    obtain ⟨m, rfl⟩ : ∃ k, m = k + 1 := ⟨m - 1, by simp at hm; omega⟩
    have e : fsz (f :: F) = f.length + 1 + fsz F := rfl
    have hfr : J.frameOf D = some f := frame_laid (g := g) (F := F) hn h4 ok (fun b h2 hb => by
      rw [rdB_none _ (fun x hx => by have := hp x hx; unfold JS.home at this; omega)]; exact hg b hb) hl (hf f (List.mem_cons_self ..)) (by omega)
    rw [redoN_some m hfr, List.flatten_cons]
    by_cases h0 : (D.wrs f).1 = 0
    · rw [if_neg (by rw [h0]; simp), D.wrs_append f F.flatten h0]
      have hfit : Fit D.disk.length f := fun x hx => by
        obtain ⟨a, b, c⟩ := ((J.chk_ok n f).1 (hf f (List.mem_cons_self ..))).2.2 x hx
        unfold JS.home at a
        exact ⟨by omega, by rw [hn]; omega, c⟩
      obtain ⟨k, hk⟩ := wrs_cases f D hde hfit
      obtain ⟨J', h1, h2⟩ := ih (J.grow (f.length + 1)) (D.wrs f).2 m (by rw [hk.disk]; exact hn) (D.wrs_live f hde h0) (ok.grow _ (by omega)) (by rw [hk.disk]; exact hg) (by
          intro x hx
          rw [hk.pend] at hx
          rcases List.mem_append.1 hx with hx | hx
          · exact hp x hx
          · unfold natW at hx
            obtain ⟨y, hy, rfl⟩ := List.mem_map.1 hx
            obtain ⟨a, b, c⟩ := ((J.chk_ok n f).1 (hf f (List.mem_cons_self ..))).2.2 y (List.mem_of_mem_take hy)
            show J.home ≤ y.1.toNat
            omega) (by
          have : (J.grow (f.length + 1)).next = J.next + 1 := by
            show (J.next + 1) % 18446744073709551616 = _
            rw [List.length_cons] at hx
            exact Nat.mod_eq_of_lt (by omega)
          rw [this]
          exact hl.2.2) (fun f' h' => (chk_log (J := J.grow (f.length + 1)) (K := J) rfl n f').trans (hf f' (List.mem_cons_of_mem _ h'))) (by
          show J.full + (f.length + 1) + fsz F ≤ J.log; omega) (by
          have : (J.grow (f.length + 1)).next = J.next + 1 := by
            show (J.next + 1) % 18446744073709551616 = _
            rw [List.length_cons] at hx
            exact Nat.mod_eq_of_lt (by omega)
          rw [this]; rw [List.length_cons] at hx; omega) (by
          show headB (g (2 + (J.p + (J.full + (f.length + 1) + fsz F)) % J.log)).data.toList = false
          rw [show J.full + (f.length + 1) + fsz F = J.full + fsz (f :: F) by rw [e]; omega]
          exact hs) (by rw [List.length_cons] at hm; omega)
      refine ⟨J', h1, fun h => ?_⟩
      rw [h2 h]
      unfold JS.after JS.grow
      simp only
      rw [List.length_cons] at hx
      rw [Nat.mod_eq_of_lt (show J.next + 1 < _ by omega), e, List.length_cons]
      congr 1 <;> omega
    · rw [if_pos h0, D.wrs_err f F.flatten h0]
      exact ⟨_, rfl, fun h => absurd h h0⟩
end
end Go.Proofs.YtepfcaopboenpaaGreat
/- Crashes, in plain lists: behind whatever is kept of what is pending, Open finds home as the commits made it. -/
namespace Go.Proofs.YtepfcaopboenpaaGreat
open Go.RowKit
open Fr (bs fixL nmAt headB topL unp WrOk packL)

/-- The last write of a block, or what lies there. -/
def vN (P : List (Nat × ByteArray)) (g : Nat → ByteArray) (b : Nat) : ByteArray := match P.reverse.find? (fun x => x.1 == b) with | some x => x.2 | none => g b
theorem rdB_vN (D : DevS) (b : Nat) : D.rdB b = vN D.pend (gd D.disk) b := by unfold DevS.rdB vN gd; rfl
theorem vN_append (P Q : List (Nat × ByteArray)) (g : Nat → ByteArray) (b : Nat) : vN (P ++ Q) g b = vN Q (vN P g) b := by
  unfold vN
  rw [List.reverse_append, List.find?_append]
  cases Q.reverse.find? (fun x => x.1 == b) <;> rfl
theorem vN_none {P : List (Nat × ByteArray)} {g : Nat → ByteArray} {b : Nat} (h : ∀ x ∈ P, x.1 ≠ b) : vN P g b = g b := by
  unfold vN
  have : P.reverse.find? (fun x => x.1 == b) = none := by
    rw [List.find?_eq_none]; intro x hx; have := h x (List.mem_reverse.1 hx); simpa using this
  rw [this]
theorem vN_hit {P : List (Nat × ByteArray)} {g g' : Nat → ByteArray} {b : Nat} (h : (∃ x ∈ P, x.1 = b) ∨ g b = g' b) : vN P g b = vN P g' b := by
  unfold vN
  cases hf : P.reverse.find? (fun x => x.1 == b) with
  | some x => rfl
  | none =>
    rcases h with ⟨x, hx, rfl⟩ | h
    · rw [List.find?_eq_none] at hf
      have := hf x (List.mem_reverse.2 hx)
      simp at this
    · exact h
theorem vN_at {P Q : List (Nat × ByteArray)} {x : Nat × ByteArray} {g : Nat → ByteArray} (h : ∀ y ∈ Q, y.1 ≠ x.1) : vN (P ++ x :: Q) g x.1 = x.2 := by
  rw [vN_append, show x :: Q = [x] ++ Q from rfl, vN_append, vN_none h]
  unfold vN; simp

theorem laid256 {P : List (Nat × ByteArray)} {d : List ByteArray} (b : Nat) (hb : b < d.length) (hd : ∀ s ∈ d, s.size = 256) (hp : ∀ x ∈ P, x.1 < d.length ∧ x.2.size = 256) : gd (laidTo (fun _ => 256) P d P.length) b = vN P (gd d) b := by
  have := (laidTo_get (fun _ => 256) P d P.length b (Nat.le_refl _) (fun _ _ => rfl) hb hd hp).1
  unfold gd vN
  rw [this, List.take_length]
  rfl

/-- A disk that Open takes up; what home is then. -/
structure Rec (N n : Nat) (d : List ByteArray) (H : Nat → ByteArray) (J : JS) (F : List (List Wr)) : Prop where
  len : d.length = n
  whole : ∀ s ∈ d, s.size = 256
  good : Good N (gd d) n J F
  view : ∀ b, 52 ≤ b → b < n → vN (natW F.flatten) (gd d) b = H b
/-- Whatever a crash keeps, it is such a disk. -/
def Safe (N n : Nat) (D : DevS) (P : (Nat → ByteArray) → Prop) : Prop := ∀ f : Nat → Nat, (∀ k, f k ≤ 256) → ∃ H J F, P H ∧ Rec N n (laidTo f D.pend D.disk D.pend.length) H J F
theorem Safe.mono {N n : Nat} {D : DevS} {P Q : (Nat → ByteArray) → Prop} (h : Safe N n D P) (hq : ∀ H, P H → Q H) : Safe N n D Q := fun f hf => by
  obtain ⟨H, J, F, h1, h2⟩ := h f hf; exact ⟨H, J, F, hq H h1, h2⟩
theorem Rec.more {N M n : Nat} {d : List ByteArray} {H : Nat → ByteArray} {J : JS} {F : List (List Wr)} (h : Rec N n d H J F) (hM : N ≤ M) (hb : M < 1000000) : Rec M n d H J F := ⟨h.len, h.whole, h.good.more hM hb, h.view⟩

/-- A device at work. -/
structure Pre (N n : Nat) (J : JS) (D : DevS) (H : Nat → ByteArray) (F : List (List Wr)) : Prop where
  dok : D.Ok
  live : D.dead = false
  len : D.disk.length = n
  good : Good N (gd D.disk) n J F
  pend : ∀ x ∈ D.pend, 52 ≤ x.1 ∧ ∃ y ∈ natW F.flatten, y.1 = x.1
  view : ∀ b, 52 ≤ b → b < n → vN (natW F.flatten) (gd D.disk) b = H b
  read : ∀ b, 52 ≤ b → b < n → D.rdB b = H b
structure Sync (N n : Nat) (J : JS) (D : DevS) (H : Nat → ByteArray) (F : List (List Wr)) : Prop where
  pre : Pre N n J D H F
  zero : gd D.disk (J.pos 0) = noughts
  older : Older (gd D.disk (1 - J.side)) J.e

section
variable {N n : Nat} {J : JS} {D : DevS} {H : Nat → ByteArray} {F : List (List Wr)}

/-- A pending write that does no harm: at home, of a block that the log writes anyway; or in the log, behind the next head's place. -/
def Harm (J : JS) (F : List (List Wr)) (x : Nat × ByteArray) : Prop := (52 ≤ x.1 ∧ ∃ y ∈ natW F.flatten, y.1 = x.1) ∨ ∃ o, J.full < o ∧ o < J.log ∧ x.1 = 2 + (J.p + o) % J.log
theorem good_low (h : Good N (gd D.disk) n J F) {P : List (Nat × ByteArray)} (hp : ∀ x ∈ P, Harm J F x) : (∀ x ∈ P, x.1 ≠ J.side ∧ x.1 ≠ 1 - J.side ∧ 2 ≤ x.1) ∧ (∀ x ∈ P, ∀ o, o ≤ J.full → x.1 ≠ 2 + (J.p + o) % J.log) := by
  have hs := h.ok.si; have hr := h.room; have hl := h.lg
  refine ⟨fun x hx => ?_, fun x hx o ho => ?_⟩
  · rcases hp x hx with ⟨h1, _⟩ | ⟨o, _, _, h1⟩
    · omega
    · omega
  · rcases hp x hx with ⟨h1, _⟩ | ⟨o', ho1, ho2, h1⟩
    · have := Nat.mod_lt (J.p + o) (show 0 < J.log by omega); omega
    · have := mod_ne J.p J.log o' o ho2 (by omega) (by omega); omega
theorem harm_rec {f : Nat → Nat} (hf : ∀ k, f k ≤ 256) (ok : D.Ok) (hn : D.disk.length = n) (h : Good N (gd D.disk) n J F) (hv : ∀ b, 52 ≤ b → b < n → vN (natW F.flatten) (gd D.disk) b = H b) (hp : ∀ x ∈ D.pend, Harm J F x) :
    Rec N n (laidTo f D.pend D.disk D.pend.length) H J F := by
  obtain ⟨h1, h2⟩ := good_low h hp
  refine ⟨by rw [laidTo_length]; exact hn, (ok.settled f (fun k _ => hf k)).whole, ?_, fun b hb hbn => ?_⟩
  · exact h.change (laid_other _ _ (fun x hx => (h1 x hx).1)) (laid_other _ _ (fun x hx => (h1 x hx).2.1)) (fun o ho => laid_other _ _ (fun x hx => h2 x hx o ho))
  · rw [← hv b hb hbn]
    apply vN_hit
    by_cases hx : ∃ x ∈ natW F.flatten, x.1 = b
    · exact .inl hx
    · refine .inr (laid_other _ _ (fun x hxp e => ?_))
      rcases hp x hxp with ⟨_, y, hy, hye⟩ | ⟨o, _, _, h5⟩
      · exact hx ⟨y, hy, hye.trans e⟩
      · have := Nat.mod_lt (J.p + o) (show 0 < J.log by have := h.lg; omega)
        have := h.lg
        omega
theorem Pre.safe (h : Pre N n J D H F) : Safe N n D (· = H) := fun _ hf => ⟨H, J, F, rfl, harm_rec hf h.dok h.len h.good h.view (fun x hx => .inl (h.pend x hx))⟩
end
end Go.Proofs.YtepfcaopboenpaaGreat
/- A checkpoint, at whatever turn the power goes: in plain lists. -/
namespace Go.Proofs.YtepfcaopboenpaaGreat
open Go.RowKit
open Fr (bs fixL nmAt headB topL unp WrOk packL)

section
variable {N n : Nat} {J : JS} {D : DevS} {H : Nat → ByteArray} {F : List (List Wr)}

theorem ck_zero' {D : DevS} {i : Int} (h1 : D.ck i = 0) : D.dead = false ∧ 0 ≤ i ∧ i < D.disk.length := by
  unfold DevS.ck at h1
  split at h1
  · omega
  · rename_i hd
    split at h1
    · omega
    · exact ⟨by simpa using hd, by omega, by omega⟩
theorem slot_inj {e s log p e' s' log' p' : Nat} (he : e < 18446744073709551616) (hs : s < 18446744073709551616) (hl : log < 4294967296) (hp : p < 4294967296)
    (he' : e' < 18446744073709551616) (hs' : s' < 18446744073709551616) (hl' : log' < 4294967296) (hp' : p' < 4294967296) (h : slotB e s log p = slotB e' s' log' p') : e = e' := by
  have h2 : halfL e s log p ++ halfL e s log p = halfL e' s' log' p' ++ halfL e' s' log' p' := Fr.bs_eq h
  have := congrArg (List.take 128) h2
  rw [List.take_left' (halfL_len ..), List.take_left' (halfL_len ..)] at this
  exact (half_inj he hs hl hp he' hs' hl' hp' this).1
/-- Where the next head stands behind a checkpoint. -/
theorem next_pos (ok : J.Ok n) : J.next'.pos 0 = J.pos 0 := by
  have hl := ok.l0
  show 2 + ((2 + (J.p + J.full + 0) % J.log) - 2 + 0 + 0) % J.log = 2 + (J.p + J.full + 0) % J.log
  rw [Nat.add_sub_cancel_left, Nat.add_zero, Nat.add_zero, Nat.mod_mod]
/-- Behind the slot is written. -/
theorem good_next {g : Nat → ByteArray} (h : Good N (gd D.disk) n J F) (hN : N + 1 < 1000000) (h0 : g J.side = gd D.disk J.side) (h1 : g (1 - J.side) = J.tgt) (hz : g (J.pos 0) = noughts) :
    Good (N + 1) g n J.next' [] ∧ Older (g (1 - J.next'.side)) J.next'.e ∧ g (J.next'.pos 0) = noughts := by
  have hb := h.bnd; have hl := h.lg; have hs := h.ok.si; have h4 := h.n4; have hpl := h.ok.pl; have hp0 := h.ok.pos_lt 0
  have hs64 := h.ok.s64
  have e1 : J.next'.e = J.e + 1 := Nat.mod_eq_of_lt (by omega)
  have es : 1 - J.next'.side = J.side := by show 1 - (1 - J.side) = J.side; omega
  have ez := next_pos h.ok
  have hside : g (1 - J.next'.side) = slotB J.e J.s J.log J.p := by rw [es, h0]; exact h.here
  have hold : Older (g (1 - J.next'.side)) J.next'.e := by
    rw [hside, e1]; exact older_slot _ _ _ _ h.ok.e64 hs64 (by omega) (by omega)
  have ok' := h.ok.next'
  have hp' := ok'.pos_lt 0
  refine ⟨⟨ok', h4, hl, hN, ⟨by rw [e1]; omega, by show J.next ≤ _; omega⟩, rfl, rfl, by show 0 + 1 ≤ J.log; omega, ?_, ?_, trivial, fun f hf => (by cases hf), ?_⟩, hold, by rw [ez]; exact hz⟩
  · show g (1 - J.side) = slotB J.next'.e J.next J.log (J.pos 0 - 2)
    rw [e1, h1]; rfl
  · refine ⟨g (1 - J.next'.side), 0, Nat.zero_le _, hold, by rw [layB_none], ?_⟩
    rw [hside]
    intro e
    have hll : J.next'.log = J.log := rfl
    rw [hll] at hp'
    have := slot_inj h.ok.e64 hs64 (by omega) (by omega) (by rw [e1]; omega) (by show J.next < _; omega) (by show J.log < _; omega) (by omega) e
    rw [e1] at this
    omega
  · rw [ez, hz]; exact headB_noughts
/-- What lies elsewhere does not matter, and the place behind the frames is no head still. -/
theorem Good.swap {g g' : Nat → ByteArray} (h : Good N g n J F) (h0 : g' J.side = g J.side) (h1 : g' (1 - J.side) = g (1 - J.side)) (hl : ∀ o, o < J.full → g' (2 + (J.p + o) % J.log) = g (2 + (J.p + o) % J.log)) (hs : headB (g' (J.pos 0)).data.toList = false) : Good N g' n J F := by
  refine ⟨h.ok, h.n4, h.lg, h.big, h.bnd, h.next, h.full, h.room, h0.trans h.here, ?_, ?_, h.fine, hs⟩
  · rw [h1]; exact h.other
  · exact h.laid.congr (fun i _ hi => hl i (by rw [h.full]; omega))
theorem wr_ok (ok : D.Ok) (i : Int) (s : ByteArray) : (D.wr i s).2.Ok := by
  unfold DevS.wr
  split
  · exact ok
  · rename_i h1
    split
    · exact ok
    · rename_i h2
      split
      · exact ok.tk
      · have hk : D.ck i = 0 := by simpa using h1
        obtain ⟨_, h3, h4⟩ := ck_zero' hk
        have t := ok.tk
        refine ⟨t.some, t.few, t.whole, fun x hx => ?_, t.fuse0, t.fuse1⟩
        simp only [List.mem_append, List.mem_singleton] at hx
        show x.1 < D.tk.2.disk.length ∧ _
        rw [DevS.tk_disk]
        rcases hx with hx | rfl
        · exact ok.pends x hx
        · exact ⟨by simp only; omega, by simpa using h2⟩
theorem wrs_ok (W : List Wr) : ∀ D : DevS, D.Ok → (D.wrs W).2.Ok := by
  induction W with
  | nil => intro D ok; exact ok
  | cons x r ih =>
    intro D ok
    unfold DevS.wrs
    split
    · exact wr_ok ok _ _
    · exact ih _ (wr_ok ok _ _)
theorem fl_ok (ok : D.Ok) : D.fl.2.Ok := by
  unfold DevS.fl
  split
  · exact ok
  · split
    · exact ok.tk
    · have h := ok.settled (fun _ => 256) (fun _ _ => Nat.le_refl _)
      have t := ok.tk
      exact ⟨h.some, h.few, h.whole, fun x hx => (by cases hx), t.fuse0, t.fuse1⟩
theorem stl_ok {W : List Wr} (ok : D.Ok) (_hf : Fit D.disk.length W) : (D.stl W).2.Ok := by
  unfold DevS.stl
  split
  · exact wrs_ok W D ok
  · exact fl_ok (wrs_ok W D ok)
theorem list_take_one {α : Type} (x : α) (k : Nat) (h : k ≤ [x].length) : [x].take k = [] ∨ [x].take k = [x] := by
  have : k = 0 ∨ k = 1 := by simp at h; omega
  rcases this with rfl | rfl
  · exact .inl rfl
  · exact .inr rfl

theorem ckp_safe (h : Pre N n J D H F) (hN : N + 1 < 1000000) :
    ((J.ckp D).1 = 0 ∧ Sync (N + 1) n (J.ckp D).2.2 (J.ckp D).2.1 H [] ∧ (J.ckp D).2.2 = J.next' ∧ (J.ckp D).2.1.pend = []) ∨ ((J.ckp D).1 = 4 ∧ (J.ckp D).2.1.dead = true ∧ (J.ckp D).2.1.Ok ∧ (J.ckp D).2.1.disk.length = n ∧ Safe (N + 1) n (J.ckp D).2.1 (· = H)) := by
  have hg := h.good
  have hb := hg.bnd; have hl := hg.lg; have hs := hg.ok.si; have hp0 := hg.ok.pos_lt 0; have hl1 := hg.ok.l1
  have hpq : gd D.disk = gd D.disk := rfl
  have hmod : (J.e + 1) % 18446744073709551616 = J.e + 1 := Nat.mod_eq_of_lt (by omega)
  have hpend0 : ∀ x ∈ D.pend, x.1 ≠ J.pos 0 := fun x hx => by have := (h.pend x hx).1; omega
  have hfit1 : Fit D.disk.length [(((J.pos 0 : Nat) : Int), noughts)] := by
    intro x hx; simp at hx; subst hx; rw [h.len]; exact ⟨by simp, by simp only; omega, noughts_size⟩
  have hnat1 : natW [(((J.pos 0 : Nat) : Int), noughts)] = [(J.pos 0, noughts)] := by simp [natW]
  have hlow : ∀ x ∈ D.pend, ∀ b, b < 52 → x.1 ≠ b := fun x hx b hb => by have := (h.pend x hx).1; omega
  have hoff : ∀ o, 2 + (J.p + o) % J.log < 52 := fun o => by have := Nat.mod_lt (J.p + o) (show 0 < J.log by omega); omega
  have hpos0 : J.pos 0 = 2 + (J.p + J.full) % J.log := rfl
  have hr := hg.room
  unfold JS.ckp
  simp only
  rcases stl_cases D _ h.live hfit1 with ⟨a1, a2, a3, a4⟩ | ⟨a1, a2, a3, k, hk, a4⟩
  · rw [if_neg (by rw [a1]; simp)]
    have ok1 : (D.stl [(((J.pos 0 : Nat) : Int), noughts)]).2.Ok := stl_ok h.dok hfit1
    generalize hD1 : (D.stl [(((J.pos 0 : Nat) : Int), noughts)]).2 = D1 at *
    rw [hnat1] at a3
    have hpp : ∀ x ∈ D.pend ++ [(J.pos 0, noughts)], x.1 < D.disk.length ∧ x.2.size = 256 := by
      intro x hx
      rcases List.mem_append.1 hx with hx | hx
      · exact h.dok.pends x hx
      · simp at hx; subst hx; exact ⟨by rw [h.len]; simp only; omega, noughts_size⟩
    have len1 : D1.disk.length = n := by rw [a3, laidTo_length]; exact h.len
    have g1 : ∀ b, b < n → gd D1.disk b = vN (D.pend ++ [(J.pos 0, noughts)]) (gd D.disk) b := fun b hb => by
      rw [a3]; exact laid256 b (by rw [h.len]; exact hb) h.dok.whole hpp
    have g1z : gd D1.disk (J.pos 0) = noughts := by rw [g1 _ (by omega)]; exact vN_at (P := D.pend) (Q := []) (x := (J.pos 0, noughts)) (fun y hy => by cases hy)
    have g1l : ∀ b, b < 52 → b ≠ J.pos 0 → gd D1.disk b = gd D.disk b := fun b hb hne => by
      rw [g1 b (by omega)]
      exact vN_none (fun x hx => by
        rcases List.mem_append.1 hx with hx | hx
        · exact hlow x hx b hb
        · simp at hx; subst hx; exact fun e => hne e.symm)
    have g1h : ∀ b, 52 ≤ b → b < n → gd D1.disk b = H b := fun b hb hbn => by
      rw [g1 b hbn, vN_append, vN_none (P := [(J.pos 0, noughts)]) (fun x hx => by simp at hx; subst hx; simp only; omega), ← rdB_vN]
      exact h.read b hb hbn
    have good1 : Good N (gd D1.disk) n J F := by
      have := hg.swap (g' := gd D1.disk) (g1l _ (by omega) (by omega)) (g1l _ (by omega) (by omega)) (fun o ho => g1l _ (hoff o) (by rw [hpos0]; have := mod_ne J.p J.log o J.full (by omega) (by omega) (by omega); omega)) (by rw [g1z]; exact headB_noughts)
      exact this
    have view1 : ∀ b, 52 ≤ b → b < n → vN (natW F.flatten) (gd D1.disk) b = H b := fun b hb hbn => by
      by_cases hx : ∃ x ∈ natW F.flatten, x.1 = b
      · rw [vN_hit (g' := gd D.disk) (.inl hx)]; exact h.view b hb hbn
      · rw [vN_none (fun x hx' e => hx ⟨x, hx', e⟩)]; exact g1h b hb hbn
    have htg : slotB ((J.e + 1) % 18446744073709551616) J.next J.log (J.pos 0 - 2) = J.tgt := by rw [hmod]; rfl
    rw [htg]
    have htz : J.tgt.size = 256 := slotB_size _ _ _ _
    have hfit2 : Fit D1.disk.length [(((1 - J.side : Nat) : Int), J.tgt)] := by
      intro x hx; simp only [List.mem_singleton] at hx; subst hx; rw [len1]; exact ⟨by simp only; omega, by simp only; omega, htz⟩
    have hnat2 : natW [(((1 - J.side : Nat) : Int), J.tgt)] = [(1 - J.side, J.tgt)] := by simp [natW]
    rcases stl_cases D1 _ a2 hfit2 with ⟨b1, b2, b3, b4⟩ | ⟨b1, b2, b3, k, hk, b4⟩
    · left
      rw [if_neg (by rw [b1]; simp)]
      have ok2 : (D1.stl [(((1 - J.side : Nat) : Int), J.tgt)]).2.Ok := stl_ok ok1 hfit2
      generalize hD2 : (D1.stl [(((1 - J.side : Nat) : Int), J.tgt)]).2 = D2 at *
      rw [hnat2, a4, List.nil_append] at b3
      have hpp2 : ∀ x ∈ [(1 - J.side, J.tgt)], x.1 < D1.disk.length ∧ x.2.size = 256 := by
        intro x hx; simp at hx; subst hx; exact ⟨by rw [len1]; simp only; omega, htz⟩
      have len2 : D2.disk.length = n := by rw [b3, laidTo_length]; exact len1
      have g2 : ∀ b, b < n → gd D2.disk b = vN [(1 - J.side, J.tgt)] (gd D1.disk) b := fun b hb => by
        rw [b3]; exact laid256 b (by rw [len1]; exact hb) ok1.whole hpp2
      have g2s : gd D2.disk (1 - J.side) = J.tgt := by rw [g2 _ (by omega)]; exact vN_at (P := []) (Q := []) (x := (1 - J.side, J.tgt)) (fun y hy => by cases hy)
      have g2o : ∀ b, b < n → b ≠ 1 - J.side → gd D2.disk b = gd D1.disk b := fun b hb hne => by
        rw [g2 b hb]; exact vN_none (fun x hx => by simp at hx; subst hx; exact fun e => hne e.symm)
      obtain ⟨q1, q2, q3⟩ := good_next (g := gd D2.disk) good1 hN (g2o _ (by omega) (by omega)) g2s (by rw [g2o _ (by omega) (by omega)]; exact g1z)
      refine ⟨rfl, ⟨⟨ok2, b2, len2, q1, (by rw [b4]; intro x hx; cases hx), fun b hb hbn => ?_, fun b hb hbn => ?_⟩, q3, q2⟩, rfl, b4⟩
      · rw [vN_none (fun x hx => by simp [natW] at hx), g2o b hbn (by omega)]; exact g1h b hb hbn
      · rw [rdB_none b (by rw [b4]; intro x hx; cases hx), g2o b hbn (by omega)]; exact g1h b hb hbn
    · right
      rw [if_pos (by rw [b1]; simp)]
      have ok2 : (D1.stl [(((1 - J.side : Nat) : Int), J.tgt)]).2.Ok := stl_ok ok1 hfit2
      refine ⟨b1, b2, ok2, by rw [b3]; exact len1, fun f hf => ?_⟩
      have hsz := (ok2.settled f (fun k _ => hf k)).whole
      simp only at hsz
      rw [b3, b4, a4, List.nil_append] at hsz ⊢
      rcases list_take_one _ k hk with e | e
      · rw [e] at hsz ⊢
        exact ⟨H, J, F, rfl, ⟨len1, ok1.whole, good1.more (by omega) hN, view1⟩⟩
      · rw [e, hnat2] at hsz ⊢
        have g2s := laid_one (f := f) (P := []) (disk := D1.disk) (1 - J.side) J.tgt (fun y hy => by cases hy) (by omega)
        have g2o : ∀ b, b ≠ 1 - J.side → gd (laidTo f ([] ++ [(1 - J.side, J.tgt)]) D1.disk ([] ++ [(1 - J.side, J.tgt)]).length) b = gd D1.disk b := fun b hne => laid_other b _ (fun x hx => by simp at hx; subst hx; exact fun e => hne e.symm)
        rw [List.nil_append] at g2s g2o
        have len2 : (laidTo f [(1 - J.side, J.tgt)] D1.disk [(1 - J.side, J.tgt)].length).length = n := by rw [laidTo_length]; exact len1
        generalize laidTo f [(1 - J.side, J.tgt)] D1.disk [(1 - J.side, J.tgt)].length = d2 at *
        by_cases hT : gd d2 (1 - J.side) = J.tgt
        · obtain ⟨q1, q2, q3⟩ := good_next (g := gd d2) good1 hN (g2o _ (by omega)) hT (by rw [g2o _ (by omega)]; exact g1z)
          refine ⟨H, J.next', [], rfl, ⟨len2, hsz, q1, fun b hb hbn => ?_⟩⟩
          rw [vN_none (fun x hx => by simp [natW] at hx), g2o b (by omega)]; exact g1h b hb hbn
        · obtain ⟨old, m, hm, ho, he, _⟩ := good1.other
          have hc : Good N (gd d2) n J F := by
            refine ⟨hg.ok, hg.n4, hg.lg, hg.big, hg.bnd, hg.next, hg.full, hg.room, by rw [g2o _ (by omega)]; exact good1.here, ?_, ?_, hg.fine, ?_⟩
            · refine ⟨old, max m (f 0), by have := hf 0; omega, ho, ?_, hT⟩
              rw [g2s, he, layB_twice _ _ _ _ htz hm]; rfl
            · exact good1.laid.congr (fun i _ _ => g2o _ (by omega))
            · rw [g2o _ (by omega)]; exact good1.stop
          refine ⟨H, J, F, rfl, ⟨len2, hsz, hc.more (by omega) hN, fun b hb hbn => ?_⟩⟩
          rw [vN_hit (g' := gd D1.disk) (.inr (g2o b (by omega)))]; exact view1 b hb hbn
  · right
    rw [if_pos (by rw [a1]; simp)]
    have ok1 : (D.stl [(((J.pos 0 : Nat) : Int), noughts)]).2.Ok := stl_ok h.dok hfit1
    refine ⟨a1, a2, ok1, by rw [a3]; exact h.len, fun f hf => ?_⟩
    have hsz := (ok1.settled f (fun k _ => hf k)).whole
    simp only at hsz
    rw [a3, a4] at hsz ⊢
    rcases list_take_one _ k hk with e | e
    · rw [e] at hsz ⊢
      have en : natW ([] : List Wr) = [] := rfl
      rw [en, List.append_nil] at hsz ⊢
      obtain ⟨H', J', F', hH, hR⟩ := h.safe f hf
      exact ⟨H', J', F', hH, hR.more (by omega) hN⟩
    · rw [e, hnat1] at hsz ⊢
      have g2s := laid_one (f := f) (P := D.pend) (disk := D.disk) (J.pos 0) noughts hpend0 (by rw [h.len]; omega)
      have g2l : ∀ b, b < 52 → b ≠ J.pos 0 → gd (laidTo f (D.pend ++ [(J.pos 0, noughts)]) D.disk (D.pend ++ [(J.pos 0, noughts)]).length) b = gd D.disk b := fun b hb hne => laid_other b _ (fun x hx => by
        rcases List.mem_append.1 hx with hx | hx
        · exact hlow x hx b hb
        · simp at hx; subst hx; exact fun e => hne e.symm)
      have g2h : ∀ b, 52 ≤ b → (¬ ∃ x ∈ natW F.flatten, x.1 = b) → gd (laidTo f (D.pend ++ [(J.pos 0, noughts)]) D.disk (D.pend ++ [(J.pos 0, noughts)]).length) b = gd D.disk b := fun b hb hno => laid_other b _ (fun x hx e => by
        rcases List.mem_append.1 hx with hx | hx
        · obtain ⟨_, y, hy, hye⟩ := h.pend x hx
          exact hno ⟨y, hy, hye.trans e⟩
        · simp at hx; subst hx; simp only at e; omega)
      have len2 : (laidTo f (D.pend ++ [(J.pos 0, noughts)]) D.disk (D.pend ++ [(J.pos 0, noughts)]).length).length = n := by rw [laidTo_length]; exact h.len
      generalize laidTo f (D.pend ++ [(J.pos 0, noughts)]) D.disk (D.pend ++ [(J.pos 0, noughts)]).length = d2 at *
      have hc : Good N (gd d2) n J F := hg.swap (g2l _ (by omega) (by omega)) (g2l _ (by omega) (by omega)) (fun o ho => g2l _ (hoff o) (by rw [hpos0]; have := mod_ne J.p J.log o J.full (by omega) (by omega) (by omega); omega)) (by rw [g2s]; exact torn_noughts _ _ hg.stop)
      refine ⟨H, J, F, rfl, ⟨len2, hsz, hc.more (by omega) hN, fun b hb hbn => ?_⟩⟩
      by_cases hx : ∃ x ∈ natW F.flatten, x.1 = b
      · rw [vN_hit (g' := gd D.disk) (.inl hx)]; exact h.view b hb hbn
      · rw [vN_hit (g' := gd D.disk) (.inr (g2h b hb hx))]; exact h.view b hb hbn
end
end Go.Proofs.YtepfcaopboenpaaGreat

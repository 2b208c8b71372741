/- What redo answers and leaves behind: the log's frames, done at home, in order. -/
import Derived.Test.YtodfcbpimglhdaaZJNext
import Derived.Test.YtodfcbpimglhdaaZJCheck
import Derived.Test.YtodfcbpimglhdaaZJCommit
import Derived.Deep.LoopGhost
import Derived.Test.YtodfcbpimglhdaaZJSlot
import Derived.BigRegion
import Derived.Lib.MinMax
import Derived.BigQuiet
import Derived.Deep.QuietTactic

namespace Go.Proofs.Ytodfcbpimglhdaa
open Go.RowKit
open Fr (SlW SlS WritesAt StrsAt OwnS OwnW nmAt hd unp headB)

section
variable {S : Nat → Prop} {w w' : World} {a p : Nat} {J : JS} {D : DevS}

theorem unp_len (s : ByteArray) (l : List ByteArray) : (unp (s :: l)).2.1.length ≤ l.length := by
  rw [Fr.unp_cons]
  split
  · split
    · show ((Fr.blocksOf s.data.toList).zip (l.take (nmAt s.data.toList 12))).length ≤ _
      rw [List.length_zip, List.length_take]; omega
    · exact Nat.zero_le _
  · exact Nat.zero_le _
theorem frameOf_some {ws : List (Int × ByteArray)} (h : J.frameOf D = some ws) : 1 ≤ ws.length ∧ ws.length ≤ 48 ∧ ws.length + 1 ≤ J.left ∧ J.chk D.disk.length ws = 0 := by
  unfold JS.frameOf at h
  split at h
  · rename_i h1
    cases h
    have h2 := (J.chk_ok _ _).1 h1.2.2.2.2
    have h3 := unp_len (D.rdB (J.pos 0)) ((List.range (nmAt (D.rdB (J.pos 0)).data.toList 12)).map fun i => D.rdB (J.pos (i + 1)))
    rw [List.length_map, List.length_range] at h3
    have h4 : (unp (J.frameAt D)).2.1.length ≤ nmAt (D.rdB (J.pos 0)).data.toList 12 := h3
    exact ⟨h2.1, h2.2.1, by omega, h1.2.2.2.2⟩
  · cases h
theorem redoN_none (m : Nat) (h : J.frameOf D = none) : J.redoN D (m + 1) = (0, D, J) := by
  show (match J.frameOf D with | none => _ | some ws => _) = _
  rw [h]
theorem redoN_some (m : Nat) {ws : List (Int × ByteArray)} (h : J.frameOf D = some ws) : J.redoN D (m + 1) = if (D.wrs ws).1 ≠ 0 then ((D.wrs ws).1, (D.wrs ws).2, J.grow (ws.length + 1)) else (J.grow (ws.length + 1)).redoN (D.wrs ws).2 m := by
  show (match J.frameOf D with | none => _ | some ws => _) = _
  rw [h]

/-- Where the loop of redo stands, with m rounds to go at most. -/
def RedoI (t : TypeId) (S : Nat → Prop) (w : World) (a p : Nat) (J : JS) (D : DevS) (m : Nat) (wr : World) : Prop :=
  ∃ (Jk : JS) (Dk : DevS), Jk.redoN Dk m = J.redo D ∧ Jk.left < m ∧ Jk.Ok D.disk.length ∧ Dk.dead = false ∧ Dk.disk.length = D.disk.length ∧ Dk.pend.length + Jk.left ≤ D.pend.length + J.log ∧ JLeaves t S w wr a p Dk Jk

set_option maxRecDepth 100000 in
set_option maxHeartbeats 2000000 in
theorem redo_any (hj : Jr 85 w a p J) (hd : Stands S w p D) (ha : ¬ S a) (ok : J.Ok D.disk.length) (hde : D.dead = false) (hp : D.pend.length ≤ 700000) :
    Calls Try.prog 48 #[.pointer (some ⟨a, 0, none⟩)] w fun e w' => e = .returned (.int .i64 (J.redo D).1) ∧ JLeaves 85 S w w' a p (J.redo D).2.1 (J.redo D).2.2 := by
  have hnd := hd.ok.few
  have hll := ok.l1
  have HA := Lib.hid ha; clear ha
  have HI : Hid (RedoI 85 S w a p J D (J.log + 1) w) :=
    ⟨J, D, rfl, by unfold JS.left; omega, ok, hde, rfl, by unfold JS.left; omega, JLeaves.refl hd hj⟩
  have hJl := hj.lt
  clear hj hd ok hde
  go_enter Try.func48, Try.ntmps48
  go_wp2_with fail
  go_loopg [4] (J.log + 1) (fun m u wr => Hid (RedoI 85 S w a p J D m wr))
  case atStart => exact HI
  case round =>
    clear HI
    obtain ⟨Jk, Dk, he, hm, hok, hde, hdk, hpk, hlv⟩ := hrel.out
    clear hrel
    obtain ⟨m, rfl⟩ : ∃ m, gk = m + 1 := ⟨gk - 1, by omega⟩
    obtain ⟨S1, hS1, hs1, hj1, ho1⟩ := hlv
    have hal : a < w.heap.size := hJl
    have hna : ¬ S1 a := fun h => by rcases hS1 a h with h | h; exact HA.out h; omega
    have hok1 : Jk.Ok Dk.disk.length := by rw [hdk]; exact hok
    have CX := Lib.hid (next_any hj1 hs1 hok1 hde (by omega))
    have hleft : Jk.left ≤ 4096 := by have := hok.l1; unfold JS.left; omega
    cases hfr : Jk.frameOf Dk with
    | none =>
      have HR : Hid (J.redo D = (0, Dk, Jk)) := by show _ = _; rw [← he]; exact redoN_none m hfr
      have HF : Hid (∀ w2, Below wr.heap.size wr w2 → JLeaves 85 S w w2 a p Dk Jk) := fun w2 hb => JLeaves.below ⟨S1, hS1, hs1, hj1, ho1⟩ hb
      rw [hfr] at CX
      clear he hm hok hde hdk hpk hS1 hs1 hj1 ho1 hna hok1 hfr hleft
      go_wp2_with fail
      refine CX.out.mono ?_
      rintro e w2 ⟨u, rfl, hu, hb⟩
      have HF2 := Lib.hid (HF.out _ hb); clear hb
      have hsh := own_shape hu
      clear hu
      obtain ⟨ao, c, rfl⟩ := hsh
      simp only [Option.getD_none, List.length_nil]
      go_wp2
      go_ret
      exact ⟨by rw [HR.out]; rfl, by rw [HR.out]; exact HF2.out⟩
    | some ws =>
      obtain ⟨f1, f2, f3, f4⟩ := frameOf_some hfr
      have hE := redoN_some m hfr
      rw [he] at hE
      rw [hfr] at CX
      have hok2 : (Jk.grow (ws.length + 1)).Ok D.disk.length := hok.grow _ (by unfold JS.left at f3; have := hok.fu; omega)
      have hl2 : (Jk.grow (ws.length + 1)).left = Jk.left - (ws.length + 1) := by unfold JS.left JS.grow; simp only; omega
      have hwl := Dk.wrs_len ws
      have hwd := Dk.wrs_disk ws
      have hwlive := Dk.wrs_live ws hde
      have HE := Lib.hid hE
      have HS1 := Lib.hid hS1; have HO1 := Lib.hid ho1; have HSt1 := Lib.hid hs1; have HJ1 := Lib.hid hj1; have HNA := Lib.hid hna
      have HOK := Lib.hid hok1; have HOK2 := Lib.hid hok2
      have HWd := Lib.hid hwd; have HWl := Lib.hid hwlive
      have HDk := Lib.hid hdk
      clear hE he hS1 ho1 hs1 hj1 hna hok1 hok2 hok hde hfr hdk hwd hwlive f4
      simp only [Option.getD_some] at CX
      go_wp2_with fail
      refine CX.out.mono ?_
      rintro e w2 ⟨u, rfl, hu, hb⟩
      have HB2 := Lib.hid hb; have HU2 := Lib.hid hu
      clear hb hu CX
      have hsh := own_shape HU2.out
      obtain ⟨ao, c, hv⟩ := hsh
      subst hv
      have f1' : (((ws.length : Nat) : Int) == 0) = false := beq_eq_false_iff_ne.2 (by omega)
      have hj2 := HJ1.out.below HB2.out
      have CG := Lib.hid (grow_any (ws.length + 1) hj2 HOK.out (by rw [HDk.out]; exact hnd) (by omega))
      have hcast : ((ws.length + 1 : Nat) : Int) = (ws.length : Int) + 1 := by omega
      rw [hcast] at CG
      clear hcast
      have hs2 := HSt1.out.below HB2.out
      have HJ2 := Lib.hid hj2; have HSt2 := Lib.hid hs2
      clear hj2 hs2
      go_wp2_with fail
      refine CG.out.mono ?_
      rintro e w3 ⟨rfl, hj3, ho3, _⟩
      have hs3 : Stands S1 w3 p Dk := HSt2.out.kept ho3 (fun k hk hka => HNA.out (hka ▸ hk))
      have hou : ∀ g off n' c', Value.slice ao ws.length c = .slice (some ⟨g, off, none⟩) n' c' → wr.heap.size ≤ g := fun g off n' c' hv => (HU2.out.lt g (by rw [hv]; rfl)).1
      have hsl3 : SlW w3 (.slice ao ws.length c) ws := SlW.only HU2.out.sl ho3 (fun g off n' c' hv hg => by have := hou g off n' c' hv; have := HJ1.out.lt; omega)
      have hout : Outs S1 (.slice ao ws.length c) := fun g off n' c' hv hg => by have := hou g off n' c' hv; have := HSt1.out.lt _ hg; omega
      have CW := Lib.hid (writeAll_any hj3 hs3 HNA.out (by omega) (by omega) hsl3 hout)
      have HF : Hid (∀ w4, Leaves S1 w3 w4 p (Dk.wrs ws).2 → JLeaves 85 S w w4 a p (Dk.wrs ws).2 (Jk.grow (ws.length + 1))) := fun w4 h => by
        refine JLeaves.next HS1.out HO1.out (JLeaves.from HB2.out (JLeaves.next (fun _ h => .inl h) (ho3.mono (fun _ _ h => .inr h)) (JLeaves.of h hj3 HNA.out)))
      clear hj3 hs3 ho3 hou hsl3 hout CG
      generalize Dk.wrs ws = R at *
      obtain ⟨er, DR⟩ := R
      simp only at HE CW HF HWd HWl hwl
      by_cases her : er = 0
      · have her' : (er != 0) = false := by simp [her]
        rw [if_neg (by simpa using her)] at HE
        go_wp2_with fail
        refine CW.out.mono ?_
        rintro e w4 ⟨rfl, hv4⟩
        have HF4 := Lib.hid (HF.out _ hv4); clear hv4
        go_wp2
        go_roundg m
        case measure => exact Nat.lt_succ_self m
        case rel =>
          refine ⟨_, _, HE.out.symm, ?_, HOK2.out, HWl.out her, ?_, ?_, HF4.out⟩
          · rw [hl2]; omega
          · rw [HWd.out]; exact HDk.out
          · rw [hl2]; omega
      · have her' : (er != 0) = true := by simp [her]
        rw [if_pos (by simpa using her)] at HE
        go_wp2_with fail
        refine CW.out.mono ?_
        rintro e w4 ⟨rfl, hv4⟩
        have HF4 := Lib.hid (HF.out _ hv4); clear hv4
        go_wp2
        go_ret
        exact ⟨by rw [HE.out]; rfl, by rw [HE.out]; exact HF4.out⟩
end
end Go.Proofs.Ytodfcbpimglhdaa
/- What findSlot answers and leaves behind: the slot that counts. -/
namespace Go.Proofs.Ytodfcbpimglhdaa
open Go.RowKit

section
variable {S : Nat → Prop} {w w' : World} {a p : Nat} {J : JS} {D : DevS}

/-- The best of the first k slots, and its block. -/
def DevS.best (D : DevS) : Nat → Option ((Nat × Nat × Nat × Nat) × Nat)
  | 0 => none
  | k + 1 => match D.slotAt k with
    | none => D.best k
    | some x => match D.best k with
      | none => some (x, k)
      | some y => if y.1.1 < x.1 then some (x, k) else some y
/-- The journal while the slots are read. -/
def bestJ : Option ((Nat × Nat × Nat × Nat) × Nat) → JS
  | none => ⟨0, 0, 0, 0, 0, 0, 0⟩
  | some x => ⟨x.1.1, x.1.2.1, x.1.2.2.1, x.1.2.2.2, x.2, 0, 0⟩
theorem find_best (D : DevS) : D.find = (D.best 2).map (fun x => slotJ x.1 x.2) := by
  unfold DevS.find
  show _ = Option.map _ (match D.slotAt 1 with | none => D.best 1 | some x => match D.best 1 with | none => some (x, 1) | some y => if y.1.1 < x.1 then some (x, 1) else some y)
  have h1 : D.best 1 = match D.slotAt 0 with | none => none | some x => some (x, 0) := by
    show (match D.slotAt 0 with | none => D.best 0 | some x => match D.best 0 with | none => some (x, 0) | some y => if y.1.1 < x.1 then some (x, 0) else some y) = _
    rfl
  rw [h1]
  cases D.slotAt 0 with
  | none => cases D.slotAt 1 <;> rfl
  | some x =>
    cases D.slotAt 1 with
    | none => rfl
    | some y =>
      show (if x.1 < y.1 then _ else _) = Option.map _ (if x.1 < y.1 then _ else _)
      split <;> rfl
theorem best_one (D : DevS) (h : D.disk.length = 1) : D.best 2 = D.best 1 := by
  have : D.slotAt 1 = none := by unfold DevS.slotAt; rw [if_neg (by omega)]
  show (match D.slotAt 1 with | none => D.best 1 | some x => _) = _
  rw [this]
theorem best_none (D : DevS) (k : Nat) (h : D.slotAt k = none) : D.best (k + 1) = D.best k := by
  show (match D.slotAt k with | none => D.best k | some x => _) = _
  rw [h]
theorem best_some (D : DevS) (k : Nat) {x : Nat × Nat × Nat × Nat} (h : D.slotAt k = some x) : D.best (k + 1) = match D.best k with | none => some (x, k) | some y => if y.1.1 < x.1 then some (x, k) else some y := by
  show (match D.slotAt k with | none => D.best k | some x => _) = _
  rw [h]

set_option maxRecDepth 100000 in
set_option maxHeartbeats 2000000 in
theorem find_dead (hj : Jr 85 w a p J) (hd : Stands S w p D) (hde : D.dead = true) (hp : D.pend.length ≤ 1000000) :
    Calls Try.prog 47 #[.pointer (some ⟨a, 0, none⟩)] w fun e w' => e = .returned (.int .i64 4) ∧ Below w.heap.size w w' := by
  have h1 := hd.ok.some
  have hnd := hd.ok.few
  have hr : D.rd 0 = (ByteArray.empty, 4) := by unfold DevS.rd DevS.ck; rw [hde]; rfl
  have CBl : Hid (∀ W, Below w.heap.size w W → Calls Try.prog 38 #[.pointer (some ⟨p, 0, none⟩)] W fun e w' => e = .returned (.int .i64 D.disk.length) ∧ W = w') := fun W hW => blocks_any (hd.below hW)
  have CR : Hid (∀ W, Below w.heap.size w W → Calls Try.prog 37 #[.pointer (some ⟨p, 0, none⟩), .int .i64 0] W fun e w' => e = .returned (.tuple #[.string ByteArray.empty, .int .i64 4]) ∧ Below W.heap.size W w') := fun W hW => by
    have := read_any 0 hp (hd.below hW); rw [hr] at this; exact this
  have c0 := hj.c0
  have HKp : Hid (∀ W, Below w.heap.size w W → W.cell? ⟨a, 0, none⟩ = some (.pointer (some ⟨p, 0, none⟩))) := fun W hW => (hW.cell (p := ⟨a, 0, none⟩) hj.lt).trans c0
  clear hj hd hr
  generalize D.disk.length = nd at *
  obtain ⟨M, hM⟩ : ∃ M : Nat, M = min 2 nd := ⟨_, rfl⟩
  have hM1 : 1 ≤ M := by omega
  go_enter Try.func47, Try.ntmps47
  go_wp2_with fail
  refine (CBl.out _ (Below.refl _ _)).mono ?_
  rintro e w1 ⟨rfl, rfl⟩
  go_wp2_with fail
  go_loopw [15] (fun i wr => i = .int .i64 0 ∧ wr = w) (fun _ _ => 0)
  case atStart => exact ⟨rfl, rfl⟩
  case round =>
    obtain ⟨rfl, rfl⟩ := hrel
    have h2 : (0 : Int) < min 2 (nd : Int) := by omega
    go_wp2_with fail
    refine (CR.out _ (Below.refl _ _)).mono ?_
    rintro e w1 ⟨rfl, hb⟩
    have HB := Lib.hid hb; clear hb
    go_wp2
    go_ret
    exact ⟨rfl, HB.out⟩

/-- What findSlot tells. -/
def FindP (D : DevS) (a p : Nat) (e : Ending) (w' : World) : Prop := (D.find = none → e = .returned (.int .i64 10)) ∧ ∀ J, D.find = some J → e = .returned (.int .i64 0) ∧ Jr 85 w' a p J

/-- A slot's fields stored into a journal. -/
abbrev slW (w : World) (a : Nat) (x : Nat × Nat × Nat × Nat) (k : Nat) : World := ((((w.setCell ⟨a, 1, none⟩ (.int .u64 (x.1 : Int))).setCell ⟨a, 2, none⟩ (.int .u64 (x.2.1 : Int))).setCell ⟨a, 3, none⟩ (.int .i64 (x.2.2.1 : Int))).setCell ⟨a, 4, none⟩ (.int .i64 (x.2.2.2 : Int))).setCell ⟨a, 5, none⟩ (.int .i64 (k : Int))
theorem sl_only (w : World) (a : Nat) (x : Nat × Nat × Nat × Nat) (k : Nat) : Only (fun k => k = a) w (slW w a x k) :=
  (((((Only.refl (fun k => k = a) w).setCell (p := ⟨a, 1, none⟩) (fun _ => rfl) _).setCell (p := ⟨a, 2, none⟩) (fun _ => rfl) _).setCell (p := ⟨a, 3, none⟩) (fun _ => rfl) _).setCell (p := ⟨a, 4, none⟩) (fun _ => rfl) _).setCell (p := ⟨a, 5, none⟩) (fun _ => rfl) _
theorem Jr.sl {t : TypeId} (h : Jr t w a p J) (x : Nat × Nat × Nat × Nat) (k : Nat) : Jr t (slW w a x k) a p ⟨x.1, x.2.1, x.2.2.1, x.2.2.2, k, J.next, J.full⟩ := by
  have h1 := h.put (J' := { J with e := x.1 }) (i := 1) (v := .int .u64 (x.1 : Int)) (by simp [JCells])
  have h2 := h1.put (J' := { J with e := x.1, s := x.2.1 }) (i := 2) (v := .int .u64 (x.2.1 : Int)) (by simp [JCells])
  have h3 := h2.put (J' := { J with e := x.1, s := x.2.1, log := x.2.2.1 }) (i := 3) (v := .int .i64 (x.2.2.1 : Int)) (by simp [JCells])
  have h4 := h3.put (J' := { J with e := x.1, s := x.2.1, log := x.2.2.1, p := x.2.2.2 }) (i := 4) (v := .int .i64 (x.2.2.2 : Int)) (by simp [JCells])
  exact h4.put (J' := ⟨x.1, x.2.1, x.2.2.1, x.2.2.2, k, J.next, J.full⟩) (i := 5) (v := .int .i64 (k : Int)) (by simp [JCells])

set_option maxRecDepth 100000 in
set_option maxHeartbeats 4000000 in
theorem find_live (hj : Jr 85 w a p ⟨0, 0, 0, 0, 0, 0, 0⟩) (hd : Stands S w p D) (ha : ¬ S a) (hde : D.dead = false) (hp : D.pend.length ≤ 1000000) :
    Calls Try.prog 47 #[.pointer (some ⟨a, 0, none⟩)] w fun e w' => Only (fun k => k = a) w w' ∧ FindP D a p e w' := by
  have h1 := hd.ok.some
  have hnd := hd.ok.few
  have hal := hj.lt
  have CBl : Hid (∀ W, Only (fun k => k = a) w W → Calls Try.prog 38 #[.pointer (some ⟨p, 0, none⟩)] W fun e w' => e = .returned (.int .i64 D.disk.length) ∧ W = w') := fun W hW => blocks_any (hd.kept hW (fun k hk hka => ha (hka ▸ hk)))
  have CR : Hid (∀ W k, k < D.disk.length → Only (fun k => k = a) w W → Calls Try.prog 37 #[.pointer (some ⟨p, 0, none⟩), .int .i64 ((k : Nat) : Int)] W fun e w' => e = .returned (.tuple #[.string (D.rdB k), .int .i64 0]) ∧ Below W.heap.size W w') := fun W k hk hW => by
    have := read_any (k : Int) hp (hd.kept hW (fun k hk hka => ha (hka ▸ hk)))
    rw [DevS.rd_live hde _ hk] at this; exact this
  have CS : Hid (∀ W k, k < D.disk.length → Calls Try.prog 75 #[.string (D.rdB k), .int .i64 (D.disk.length : Int)] W fun r w' => r = .returned (slotV (D.slotAt k)) ∧ Below W.heap.size W w') := fun W k hk => by
    have := readSlot_any (D.rdB k) D.disk.length W (hd.ok.rdB_size k hk) hnd
    have e : D.slotAt k = rdSlot (D.rdB k) D.disk.length := by unfold DevS.slotAt; rw [if_pos hk]
    rw [e]; exact this
  have HFB := Lib.hid (find_best D)
  have HB1 := Lib.hid (best_one D)
  have HJ := Lib.hid hj
  have c0 := hj.c0
  clear hj hd ha hde
  obtain ⟨nd, hnd'⟩ : ∃ n, D.disk.length = n := ⟨_, rfl⟩
  rw [hnd'] at CBl CS CR h1 hnd HB1
  clear hnd'
  obtain ⟨M, hM⟩ : ∃ M : Nat, M = min 2 nd := ⟨_, rfl⟩
  have hMe : min 2 (nd : Int) = (M : Int) := by omega
  go_enter Try.func47, Try.ntmps47
  go_wp2_with fail
  refine (CBl.out _ (Only.refl _ _)).mono ?_
  rintro e w1 ⟨rfl, rfl⟩
  go_wp2_with fail
  go_loopw [3, 15] (fun fd i wr => ∃ k : Nat, k ≤ M ∧ i = .int .i64 k ∧ fd = .bool (D.best k).isSome ∧ Hid (Jr 85 wr a p (bestJ (D.best k))) ∧ Hid (Only (fun k => k = a) w wr)) (fun _ i _ => M - (intOf i).toNat)
  case atStart => exact ⟨0, Nat.zero_le _, rfl, rfl, HJ, Only.refl _ _⟩
  case round =>
    obtain ⟨k, hk, rfl, rfl, HJk, HO⟩ := hrel
    clear HJ c0
    by_cases hlt : k < M
    · have hkn : k < nd := by omega
      have ca := HJk.out.c0
      have halr := HJk.out.lt
      have CRk := Lib.hid (CR.out wr k hkn HO.out)
      have CSk := Lib.hid (fun W => CS.out W k hkn)
      have CBk : Hid (∀ W, Below wr.heap.size wr W → Calls Try.prog 38 #[.pointer (some ⟨p, 0, none⟩)] W fun e w' => e = .returned (.int .i64 nd) ∧ W = w') := fun W hW => CBl.out W (HO.out.trans (Only.of_below (fun _ => False) hW (Nat.le_refl _)) (fun _ _ f => f.elim))
      clear CR CS CBl
      generalize D.rdB k = tx at *
      have hlt' : (k : Int) < (M : Int) := by omega
      go_wp2_with fail
      refine CRk.out.mono ?_
      rintro e w1 ⟨rfl, hb1⟩
      have HB1' := Lib.hid hb1; clear hb1
      have ca1 := (HB1'.out.cell (p := ⟨a, 0, none⟩) halr).trans ca
      go_wp2_with fail
      refine (CBk.out _ HB1'.out).mono ?_
      rintro e w2 ⟨rfl, rfl⟩
      go_wp2_with fail
      refine (CSk.out _).mono ?_
      rintro e w3 ⟨rfl, hb3⟩
      have HB3 := Lib.hid (HB1'.out.trans (hb3.mono HB1'.out.size)); clear hb3 HB1' ca ca1 CRk CSk CBk
      have HJ3 := Lib.hid (HJk.out.below HB3.out)
      have HO3 : Hid (Only (fun k => k = a) w w3) := HO.out.trans (Only.of_below (fun _ => False) HB3.out (Nat.le_refl _)) (fun _ _ f => f.elim)
      have hal3 := HJ3.out.lt
      cases hs : D.slotAt k with
      | none =>
        have HBn : Hid (D.best (k + 1) = D.best k) := best_none D k hs
        have HBi : Hid ((D.best (k + 1)).isSome = (D.best k).isSome) := by show _ = _; rw [HBn.out]
        generalize (D.best k).isSome = fd at *
        simp only [slotV]
        clear hs
        go_wp2_with fail
        go_quiet (fail)
        go_wp2
        go_roundw
        case rel =>
          have hb : Below w3.heap.size w3 ((w3.alloc (.cells #[.int .u64 0, .int .u64 0, .int .i64 0, .int .i64 0] 83)).drewN nq) := Fr.below_drewN ((Below.refl _ _).alloc (Nat.le_refl _) _) _
          exact ⟨k + 1, by omega, by go_num, by rw [HBi.out], by rw [HBn.out]; exact HJ3.out.below hb, HO3.out.trans (Only.of_below (fun _ => False) hb (Nat.le_refl _)) (fun _ _ f => f.elim)⟩
        case measure => simp [intOf]; omega
      | some x =>
        have HBs := Lib.hid (best_some D k hs)
        clear hs
        obtain ⟨xe, xs, xl, xp⟩ := x
        simp only [slotV]
        obtain ⟨X, hX⟩ : ∃ X, w3.alloc (.cells #[.int .u64 (xe : Int), .int .u64 (xs : Int), .int .i64 (xl : Int), .int .i64 (xp : Int)] 83) = X := ⟨_, rfl⟩
        have hXb : Below w3.heap.size w3 X := by rw [← hX]; exact (Below.refl _ _).alloc (Nat.le_refl _) _
        have hXh : X.heap[w3.heap.size]? = some (.cells #[.int .u64 (xe : Int), .int .u64 (xs : Int), .int .i64 (xl : Int), .int .i64 (xp : Int)] 83 (0, 0)) := by rw [← hX, heap_alloc_new]
        have k0 : X.cell? ⟨w3.heap.size, 0, none⟩ = some (.int .u64 (xe : Int)) := by rw [cell_at hXh]; rfl
        have k1 : X.cell? ⟨w3.heap.size, 1, none⟩ = some (.int .u64 (xs : Int)) := by rw [cell_at hXh]; rfl
        have k2 : X.cell? ⟨w3.heap.size, 2, none⟩ = some (.int .i64 (xl : Int)) := by rw [cell_at hXh]; rfl
        have k3 : X.cell? ⟨w3.heap.size, 3, none⟩ = some (.int .i64 (xp : Int)) := by rw [cell_at hXh]; rfl
        have HJX := Lib.hid (HJ3.out.below hXb)
        have HOX : Hid (Only (fun k => k = a) w X) := HO3.out.trans (Only.of_below (fun _ => False) hXb (Nat.le_refl _)) (fun _ _ f => f.elim)
        have HX := Lib.hid hX
        have hne : w3.heap.size ≠ a := by omega
        clear hX hXb hXh HJ3 HO3 HB3 HJk
        cases hbk : D.best k with
        | none =>
          rw [hbk] at HBs HJX
          have HBn : Hid (D.best (k + 1) = some ((xe, xs, xl, xp), k)) := HBs.out
          simp only [Option.isSome_none]
          simp only [bestJ] at HJX
          clear HBs hbk
          have X0 := HJX.out.c1; have X1 := HJX.out.c2; have X2 := HJX.out.c3; have X3 := HJX.out.c4; have X4 := HJX.out.c5
          have F0 := HJX.out.f 1; have F1 := HJX.out.f 2; have F2 := HJX.out.f 3; have F3 := HJX.out.f 4; have F4 := HJX.out.f 5
          go_wp2_with fail
          rw [HX.out]
          go_quiet (fail)
          go_wp2_with fail
          go_region
          go_wp2
          go_roundw
          case rel => exact ⟨k + 1, by omega, by go_num, by rw [HBn.out]; rfl, by rw [HBn.out]; exact (HJX.out.sl (xe, xs, xl, xp) k).below (Fr.below_drewN (Below.refl _ _) _), (HOX.out.trans (sl_only X a (xe, xs, xl, xp) k) (fun _ _ h => h)).trans (Only.of_below (fun _ => False) (Fr.below_drewN (Below.refl _ _) _) (Nat.le_refl _)) (fun _ _ f => f.elim)⟩
          case measure => simp [intOf]; omega
        | some y =>
          obtain ⟨⟨ye, ys, yl, yp⟩, yi⟩ := y
          rw [hbk] at HBs HJX
          simp only [Option.isSome_some]
          simp only [bestJ] at HJX
          by_cases hg : ye < xe
          · have HBn : Hid (D.best (k + 1) = some ((xe, xs, xl, xp), k)) := by
              show _ = _; rw [HBs.out]; show (if ye < xe then _ else _) = _; rw [if_pos hg]
            have hg' : (ye : Int) < (xe : Int) := by omega
            have hgd : decide ((ye : Int) < (xe : Int)) = true := decide_eq_true hg'
            clear HBs hbk
            have X0 := HJX.out.c1; have X1 := HJX.out.c2; have X2 := HJX.out.c3; have X3 := HJX.out.c4; have X4 := HJX.out.c5
            have F0 := HJX.out.f 1; have F1 := HJX.out.f 2; have F2 := HJX.out.f 3; have F3 := HJX.out.f 4; have F4 := HJX.out.f 5
            go_wp2_with fail
            rw [HX.out]
            go_quiet (fail)
            go_wp2_with fail
            go_region
            go_wp2
            go_roundw
            case rel => exact ⟨k + 1, by omega, by go_num, by rw [HBn.out]; rfl, by rw [HBn.out]; exact (HJX.out.sl (xe, xs, xl, xp) k).below (Fr.below_drewN (Below.refl _ _) _), (HOX.out.trans (sl_only X a (xe, xs, xl, xp) k) (fun _ _ h => h)).trans (Only.of_below (fun _ => False) (Fr.below_drewN (Below.refl _ _) _) (Nat.le_refl _)) (fun _ _ f => f.elim)⟩
            case measure => simp [intOf]; omega
          · have HBn : Hid (D.best (k + 1) = some ((ye, ys, yl, yp), yi)) := by
              show _ = _; rw [HBs.out]; show (if ye < xe then _ else _) = _; rw [if_neg hg]
            have hg' : ¬ (ye : Int) < (xe : Int) := by omega
            have hgd : decide ((ye : Int) < (xe : Int)) = false := decide_eq_false hg'
            have X0 := HJX.out.c1
            clear HBs hbk
            go_wp2_with fail
            rw [HX.out]
            go_quiet (fail)
            go_wp2
            go_roundw
            case rel => exact ⟨k + 1, by omega, by go_num, by rw [HBn.out]; rfl, by rw [HBn.out]; exact HJX.out.below (Fr.below_drewN (Below.refl _ _) _), HOX.out.trans (Only.of_below (fun _ => False) (Fr.below_drewN (Below.refl _ _) _) (Nat.le_refl _)) (fun _ _ f => f.elim)⟩
            case measure => simp [intOf]; omega
    · have hkn : k = M := by omega
      have hb2 : D.best k = D.best 2 := by
        by_cases h2 : nd = 1
        · rw [HB1.out h2, hkn, hM, h2]; rfl
        · rw [hkn, hM, show min 2 nd = 2 by omega]
      have hlt' : ¬ (k : Int) < (M : Int) := by omega
      rw [hb2] at HJk ⊢
      cases hb : D.best 2 with
      | none =>
        rw [hb] at HJk
        have HF : Hid (D.find = none) := by show _ = _; rw [HFB.out, hb]; rfl
        simp only [Option.isSome_none]
        clear hb hb2 hkn
        go_wp2
        go_ret
        exact ⟨HO.out, fun _ => rfl, fun J h => by rw [HF.out] at h; cases h⟩
      | some y =>
        obtain ⟨⟨ye, ys, yl, yp⟩, yi⟩ := y
        rw [hb] at HJk
        have HF : Hid (D.find = some ⟨ye, ys, yl, yp, yi, ys, 0⟩) := by show _ = _; rw [HFB.out, hb]; rfl
        simp only [Option.isSome_some]
        simp only [bestJ] at HJk
        have c2 := HJk.out.c2; have c6 := HJk.out.c6; have f6 := HJk.out.f 6
        clear hb hb2 hkn
        go_wp2
        go_ret
        refine ⟨HO.out.setCell (p := ⟨a, 6, none⟩) (fun _ => rfl) _, fun h => (by rw [HF.out] at h; cases h), fun J h => ?_⟩
        rw [HF.out] at h
        cases h
        exact ⟨rfl, HJk.out.put (J' := ⟨ye, ys, yl, yp, yi, ys, 0⟩) (i := 6) (by simp [JCells])⟩
end
end Go.Proofs.Ytodfcbpimglhdaa
/- What Open answers and leaves behind, for every device. -/
namespace Go.Proofs.Ytodfcbpimglhdaa
open Go.RowKit

section
variable {S : Nat → Prop} {w w' : World} {a p : Nat} {J : JS} {D : DevS}

/-- What Open leaves: an error and nil, or a new journal. -/
def Opened (t : TypeId) (S : Nat → Prop) (w w' : World) (p : Nat) (r : Int × DevS × Option JS) (e : Ending) : Prop :=
  ∃ S' : Nat → Prop, (∀ k, S' k → S k ∨ w.heap.size ≤ k) ∧ Stands S' w' p r.2.1 ∧ Only S w w' ∧
    (match r.2.2 with
    | none => e = .returned (.tuple #[.pointer none, .int .i64 r.1])
    | some J => ∃ a, e = .returned (.tuple #[.pointer (some ⟨a, 0, none⟩), .int .i64 r.1]) ∧ w.heap.size ≤ a ∧ ¬ S' a ∧ Jr t w' a p J)

theorem rdSlot_ok {t : ByteArray} {n : Nat} {x : Nat × Nat × Nat × Nat} (h : rdSlot t n = some x) : 50 ≤ x.2.2.1 ∧ x.2.2.1 + 3 ≤ n ∧ x.2.2.2 < x.2.2.1 ∧ x.1 < 18446744073709551616 ∧ x.2.1 < 18446744073709551616 := by
  obtain ⟨⟨h1, h2, h3, _⟩, rfl⟩ := (rdSlot_iff t n x).1 h
  exact ⟨h1, h2, h3, wideAt_lt _ _, wideAt_lt _ _⟩
theorem find_ok (h : D.find = some J) : J.Ok D.disk.length ∧ J.full = 0 := by
  have hs : ∀ i x, i ≤ 1 → D.slotAt i = some x → (slotJ x i).Ok D.disk.length ∧ (slotJ x i).full = 0 := by
    intro i x hi hx
    unfold DevS.slotAt at hx
    split at hx
    · obtain ⟨h1, h2, h3, h4, h5⟩ := rdSlot_ok hx
      exact ⟨⟨h1, h2, h3, hi, Nat.zero_le _, h4, h5, h5⟩, rfl⟩
    · cases hx
  unfold DevS.find at h
  split at h
  · cases h
  · rename_i x h0 h1; cases h; exact hs 0 x (by omega) h0
  · rename_i x h0 h1; cases h; exact hs 1 x (by omega) h1
  · rename_i x y h0 h1
    split at h
    · cases h; exact hs 1 y (by omega) h1
    · cases h; exact hs 0 x (by omega) h0


theorem redoN_keeps (m : Nat) : ∀ (J : JS) (D : DevS), J.Ok D.disk.length → (J.redoN D m).2.1.disk.length = D.disk.length ∧ (J.redoN D m).2.2.Ok D.disk.length ∧ (J.redoN D m).2.1.pend.length + (J.redoN D m).2.2.left ≤ D.pend.length + J.left := by
  induction m with
  | zero => intro J D ok; exact ⟨rfl, ok, Nat.le_refl _⟩
  | succ m ih =>
    intro J D ok
    cases hfr : J.frameOf D with
    | none => rw [redoN_none m hfr]; exact ⟨rfl, ok, Nat.le_refl _⟩
    | some ws =>
      obtain ⟨f1, f2, f3, _⟩ := frameOf_some hfr
      have hl := ok.fu
      have ok2 : (J.grow (ws.length + 1)).Ok D.disk.length := ok.grow _ (by unfold JS.left at f3; omega)
      have hl2 : (J.grow (ws.length + 1)).left = J.left - (ws.length + 1) := by unfold JS.left JS.grow; simp only; omega
      have hw := D.wrs_len ws
      have hd := D.wrs_disk ws
      rw [redoN_some m hfr]
      split
      · refine ⟨by rw [hd], ok2, ?_⟩
        show (D.wrs ws).2.pend.length + (J.grow (ws.length + 1)).left ≤ _
        rw [hl2]; omega
      · have := ih (J.grow (ws.length + 1)) (D.wrs ws).2 (by rw [hd]; exact ok2)
        rw [hd] at this
        refine ⟨this.1, this.2.1, ?_⟩
        have := this.2.2
        rw [hl2] at this
        omega
/-- From what a call on the new journal leaves to what Open leaves. -/
theorem opened_of {X : World} {D' : DevS} {J' : JS} (hd : Stands S w p D) (hXb : Below w.heap.size w X) (hX : w.heap.size < X.heap.size) (h : JLeaves 85 S X w' w.heap.size p D' J') :
    ∃ S' : Nat → Prop, (∀ k, S' k → S k ∨ w.heap.size ≤ k) ∧ Stands S' w' p D' ∧ Only S w w' ∧ ¬ S' w.heap.size ∧ Jr 85 w' w.heap.size p J' := by
  obtain ⟨S', hS', hs, hj, ho⟩ := h
  refine ⟨S', fun k hk => ?_, hs, ?_, fun h => ?_, hj⟩
  · rcases hS' k hk with h | h
    · exact .inl h
    · exact .inr (by omega)
  · exact (Only.of_below S hXb (Nat.le_refl _)).trans ho (fun i hi h => by rcases h with h | h; exact h; omega)
  · rcases hS' _ h with h | h
    · have := hd.lt _ h; omega
    · omega

set_option maxRecDepth 100000 in
set_option maxHeartbeats 2000000 in
theorem open_any (hd : Stands S w p D) (hp : D.pend.length ≤ 600000) :
    Calls Try.prog 16 #[.pointer (some ⟨p, 0, none⟩)] w fun e w' => Opened 85 S w w' p D.opn e := by
  have hlt := hd.lt
  have hnd := hd.ok.few
  obtain ⟨X, hX⟩ : ∃ X, w.alloc (.cells #[.pointer (some ⟨p, 0, none⟩), .int .u64 0, .int .u64 0, .int .i64 0, .int .i64 0, .int .i64 0, .int .u64 0, .int .i64 0] 85) = X := ⟨_, rfl⟩
  have hXb : Below w.heap.size w X := by rw [← hX]; exact (Below.refl _ _).alloc (Nat.le_refl _) _
  have hXj : Jr 85 X w.heap.size p ⟨0, 0, 0, 0, 0, 0, 0⟩ := by unfold Jr; rw [← hX]; exact heap_alloc_new ..
  have hXs := hd.below hXb
  have hXz := hXj.lt
  have hna : ¬ S w.heap.size := fun h => by have := hlt _ h; omega
  have HX := Lib.hid hX; clear hX
  have HXB := Lib.hid hXb; have HD := Lib.hid hd
  cases hde : D.dead with
  | true =>
    have HO : Hid (D.opn = (4, D, none)) := by show _ = _; unfold DevS.opn; rw [hde]; rfl
    have CF := Lib.hid (find_dead hXj hXs hde (by omega))
    clear hXj hXs hna hde hlt hd hXb
    go_enter Try.func16, Try.ntmps16
    go_wp2_with fail
    rw [HX.out]
    refine CF.out.mono ?_
    rintro e w1 ⟨rfl, hb1⟩
    have HB1 : Hid (Below w.heap.size w w1) := HXB.out.trans (hb1.mono HXB.out.size)
    clear hb1
    go_wp2
    go_ret2
    unfold Opened
    rw [HO.out]
    exact ⟨S, fun _ => .inl, HD.out.below HB1.out, Only.of_below _ HB1.out (Nat.le_refl _), rfl⟩
  | false =>
    have CF := Lib.hid (find_live hXj hXs hna hde (by omega))
    cases hf : D.find with
    | none =>
      have HO : Hid (D.opn = (10, D, none)) := by show _ = _; unfold DevS.opn; rw [hde, hf]; rfl
      have HF := Lib.hid hf
      clear hXj hXs hna hde hlt hd hXb hf
      go_enter Try.func16, Try.ntmps16
      go_wp2_with fail
      rw [HX.out]
      refine CF.out.mono ?_
      rintro e w1 ⟨ho1, hp1, _⟩
      have he := hp1 HF.out
      subst he
      have HO1 : Hid (Only S w w1) := (Only.of_below S HXB.out (Nat.le_refl _)).trans ho1 (fun i hi h => by omega)
      have HS1 : Hid (Stands S w1 p D) := (HD.out.below HXB.out).kept ho1 (fun k hk hka => by have := HD.out.lt _ hk; omega)
      clear ho1 hp1 CF
      go_wp2
      go_ret2
      unfold Opened
      rw [HO.out]
      exact ⟨S, fun _ => .inl, HS1.out, HO1.out, rfl⟩
    | some J =>
      obtain ⟨hok, hfu⟩ := find_ok hf
      have HF := Lib.hid hf
      have HOp : Hid (D.opn = if (J.redo D).1 ≠ 0 then ((J.redo D).1, (J.redo D).2.1, none) else if ((J.redo D).2.2.ckp (J.redo D).2.1).1 ≠ 0 then (((J.redo D).2.2.ckp (J.redo D).2.1).1, ((J.redo D).2.2.ckp (J.redo D).2.1).2.1, none) else (0, ((J.redo D).2.2.ckp (J.redo D).2.1).2.1, some ((J.redo D).2.2.ckp (J.redo D).2.1).2.2)) := by
        show _ = _; unfold DevS.opn; rw [hde, hf]; rfl
      have hkp : (J.redo D).2.1.disk.length = D.disk.length ∧ (J.redo D).2.2.Ok D.disk.length ∧ (J.redo D).2.1.pend.length ≤ 700000 := by
        have h := redoN_keeps (J.log + 1) J D hok
        refine ⟨h.1, h.2.1, ?_⟩
        have h3 := h.2.2
        have := hok.l1
        have h4 : J.left ≤ 4096 := by unfold JS.left; omega
        show (J.redoN D (J.log + 1)).2.1.pend.length ≤ _
        omega
      have HK := Lib.hid hkp
      have HXS := Lib.hid hXs; have HNA := Lib.hid hna
      have HDE := Lib.hid hde; have HOK := Lib.hid hok
      clear hXj hXs hna hde hlt hd hXb hf hok hfu hkp
      go_enter Try.func16, Try.ntmps16
      go_wp2_with fail
      rw [HX.out]
      refine CF.out.mono ?_
      rintro e w1 ⟨ho1, _, hp1⟩
      obtain ⟨he, hj1⟩ := hp1 J HF.out
      subst he
      have hs1 : Stands S w1 p D := HXS.out.kept ho1 (fun k hk hka => HNA.out (hka ▸ hk))
      have CR := Lib.hid (redo_any hj1 hs1 HNA.out HOK.out HDE.out (by omega))
      have HO1 : Hid (∀ w2 D2 J2, JLeaves 85 S w1 w2 w.heap.size p D2 J2 → JLeaves 85 S X w2 w.heap.size p D2 J2) := fun w2 D2 J2 h => JLeaves.next (fun _ h => .inl h) (ho1.mono (fun _ _ h => .inr h)) h
      clear ho1 hp1 hj1 hs1 CF
      generalize J.redo D = R1 at *
      obtain ⟨er1, D1, J1⟩ := R1
      simp only at HOp HK CR
      go_wp2_with fail
      refine CR.out.mono ?_
      rintro e w2 ⟨rfl, hv2⟩
      have HV2 := Lib.hid (HO1.out _ _ _ hv2)
      clear hv2 CR HO1
      by_cases he1 : er1 = 0
      · have he1' : (er1 != 0) = false := by simp [he1]
        rw [if_neg (by simpa using he1)] at HOp
        obtain ⟨S2, hS2, hs2, hj2, ho2⟩ := HV2.out
        have hna2 : ¬ S2 w.heap.size := fun h => by rcases hS2 _ h with h | h; exact HNA.out h; omega
        have CK := Lib.hid (ckp_any hj2 hs2 hna2 (by rw [HK.out.1]; exact HK.out.2.1) (by have := HK.out.2.2; omega))
        have HV3 : Hid (∀ w3 D3 J3, JLeaves 85 S2 w2 w3 w.heap.size p D3 J3 → JLeaves 85 S X w3 w.heap.size p D3 J3) := fun w3 D3 J3 h => JLeaves.next hS2 ho2 h
        clear hS2 hs2 hj2 ho2 hna2 HV2
        generalize J1.ckp D1 = R2 at *
        obtain ⟨er2, D2, J2⟩ := R2
        simp only at HOp CK
        go_wp2_with fail
        refine CK.out.mono ?_
        rintro e w3 ⟨rfl, hv3⟩
        have HV := Lib.hid (HV3.out _ _ _ hv3)
        clear hv3 CK HV3
        by_cases he2 : er2 = 0
        · have he2' : (er2 != 0) = false := by simp [he2]
          rw [if_neg (by simpa using he2)] at HOp
          go_wp2
          go_ret2
          obtain ⟨S3, h1, h2, h3, h4, h5⟩ := opened_of HD.out HXB.out hXz HV.out
          unfold Opened
          rw [HOp.out]
          exact ⟨S3, h1, h2, h3, w.heap.size, rfl, Nat.le_refl _, h4, h5⟩
        · have he2' : (er2 != 0) = true := by simp [he2]
          rw [if_pos (by simpa using he2)] at HOp
          go_wp2
          go_ret2
          obtain ⟨S3, h1, h2, h3, h4, h5⟩ := opened_of HD.out HXB.out hXz HV.out
          unfold Opened
          rw [HOp.out]
          exact ⟨S3, h1, h2, h3, rfl⟩
      · have he1' : (er1 != 0) = true := by simp [he1]
        rw [if_pos (by simpa using he1)] at HOp
        go_wp2
        go_ret2
        obtain ⟨S3, h1, h2, h3, h4, h5⟩ := opened_of HD.out HXB.out hXz HV2.out
        unfold Opened
        rw [HOp.out]
        exact ⟨S3, h1, h2, h3, rfl⟩
end
end Go.Proofs.Ytodfcbpimglhdaa

/- What redo answers and leaves behind: the log's frames, done at home, in order. -/
import Derived.Test.YtpoekkclkohanaaZJNext
import Derived.Test.YtpoekkclkohanaaZJCheck
import Derived.Test.YtpoekkclkohanaaZJCommit
import Derived.Deep.LoopGhost

namespace Go.Proofs.Ytpoekkclkohanaa
open Go.RowKit
open Fr (SlW SlS WritesAt StrsAt OwnS OwnW nmAt hd unp headB)

section
variable {S : Nat → Prop} {w w' : World} {a p : Nat} {J : JS} {D : DevS}

theorem unp_len (s : ByteArray) (l : List ByteArray) : (unp (s :: l)).2.1.length ≤ l.length := by
  rw [Fr.unp_cons]
  split
  · split
    · show ((Fr.blocksOf s.data.toList).zip (l.take (nmAt s.data.toList 12))).length ≤ _
      rw [List.length_zip, List.length_take]; omega
    · exact Nat.zero_le _
  · exact Nat.zero_le _
theorem frameOf_some {ws : List (Int × ByteArray)} (h : J.frameOf D = some ws) : 1 ≤ ws.length ∧ ws.length ≤ 48 ∧ ws.length + 1 ≤ J.left ∧ J.chk D.disk.length ws = 0 := by
  unfold JS.frameOf at h
  split at h
  · rename_i h1
    cases h
    have h2 := (J.chk_ok _ _).1 h1.2.2.2.2
    have h3 := unp_len (D.rdB (J.pos 0)) ((List.range (nmAt (D.rdB (J.pos 0)).data.toList 12)).map fun i => D.rdB (J.pos (i + 1)))
    rw [List.length_map, List.length_range] at h3
    have h4 : (unp (J.frameAt D)).2.1.length ≤ nmAt (D.rdB (J.pos 0)).data.toList 12 := h3
    exact ⟨h2.1, h2.2.1, by omega, h1.2.2.2.2⟩
  · cases h
theorem redoN_none (m : Nat) (h : J.frameOf D = none) : J.redoN D (m + 1) = (0, D, J) := by
  show (match J.frameOf D with | none => _ | some ws => _) = _
  rw [h]
theorem redoN_some (m : Nat) {ws : List (Int × ByteArray)} (h : J.frameOf D = some ws) : J.redoN D (m + 1) = if (D.wrs ws).1 ≠ 0 then ((D.wrs ws).1, (D.wrs ws).2, J.grow (ws.length + 1)) else (J.grow (ws.length + 1)).redoN (D.wrs ws).2 m := by
  show (match J.frameOf D with | none => _ | some ws => _) = _
  rw [h]

/-- Where the loop of redo stands, with m rounds to go at most. -/
def RedoI (t : TypeId) (S : Nat → Prop) (w : World) (a p : Nat) (J : JS) (D : DevS) (m : Nat) (wr : World) : Prop :=
  ∃ (Jk : JS) (Dk : DevS), Jk.redoN Dk m = J.redo D ∧ Jk.left < m ∧ Jk.Ok D.disk.length ∧ Dk.dead = false ∧ Dk.disk.length = D.disk.length ∧ Dk.pend.length + Jk.left ≤ D.pend.length + J.log ∧ JLeaves t S w wr a p Dk Jk

set_option maxRecDepth 100000 in
set_option maxHeartbeats 2000000 in
theorem redo_any (hj : Jr 64 w a p J) (hd : Stands S w p D) (ha : ¬ S a) (ok : J.Ok D.disk.length) (hde : D.dead = false) (hp : D.pend.length ≤ 700000) :
    Calls Try.prog 31 #[.pointer (some ⟨a, 0, none⟩)] w fun e w' => e = .returned (.int .i64 (J.redo D).1) ∧ JLeaves 64 S w w' a p (J.redo D).2.1 (J.redo D).2.2 := by
  have hnd := hd.ok.few
  have hll := ok.l1
  have HA := Lib.hid ha; clear ha
  have HI : Hid (RedoI 64 S w a p J D (J.log + 1) w) :=
    ⟨J, D, rfl, by unfold JS.left; omega, ok, hde, rfl, by unfold JS.left; omega, JLeaves.refl hd hj⟩
  have hJl := hj.lt
  clear hj hd ok hde
  go_enter Try.func31, Try.ntmps31
  go_wp2_with fail
  go_loopg [4] (J.log + 1) (fun m u wr => Hid (RedoI 64 S w a p J D m wr))
  case atStart => exact HI
  case round =>
    clear HI
    obtain ⟨Jk, Dk, he, hm, hok, hde, hdk, hpk, hlv⟩ := hrel.out
    clear hrel
    obtain ⟨m, rfl⟩ : ∃ m, gk = m + 1 := ⟨gk - 1, by omega⟩
    obtain ⟨S1, hS1, hs1, hj1, ho1⟩ := hlv
    have hal : a < w.heap.size := hJl
    have hna : ¬ S1 a := fun h => by rcases hS1 a h with h | h; exact HA.out h; omega
    have hok1 : Jk.Ok Dk.disk.length := by rw [hdk]; exact hok
    have CX := Lib.hid (next_any hj1 hs1 hok1 hde (by omega))
    have hleft : Jk.left ≤ 4096 := by have := hok.l1; unfold JS.left; omega
    cases hfr : Jk.frameOf Dk with
    | none =>
      have HR : Hid (J.redo D = (0, Dk, Jk)) := by show _ = _; rw [← he]; exact redoN_none m hfr
      have HF : Hid (∀ w2, Below wr.heap.size wr w2 → JLeaves 64 S w w2 a p Dk Jk) := fun w2 hb => JLeaves.below ⟨S1, hS1, hs1, hj1, ho1⟩ hb
      rw [hfr] at CX
      clear he hm hok hde hdk hpk hS1 hs1 hj1 ho1 hna hok1 hfr hleft
      go_wp2_with fail
      refine CX.out.mono ?_
      rintro e w2 ⟨u, rfl, hu, hb⟩
      have HF2 := Lib.hid (HF.out _ hb); clear hb
      have hsh := own_shape hu
      clear hu
      obtain ⟨ao, c, rfl⟩ := hsh
      simp only [Option.getD_none, List.length_nil]
      go_wp2
      go_ret
      exact ⟨by rw [HR.out]; rfl, by rw [HR.out]; exact HF2.out⟩
    | some ws =>
      obtain ⟨f1, f2, f3, f4⟩ := frameOf_some hfr
      have hE := redoN_some m hfr
      rw [he] at hE
      rw [hfr] at CX
      have hok2 : (Jk.grow (ws.length + 1)).Ok D.disk.length := hok.grow _ (by unfold JS.left at f3; have := hok.fu; omega)
      have hl2 : (Jk.grow (ws.length + 1)).left = Jk.left - (ws.length + 1) := by unfold JS.left JS.grow; simp only; omega
      have hwl := Dk.wrs_len ws
      have hwd := Dk.wrs_disk ws
      have hwlive := Dk.wrs_live ws hde
      have HE := Lib.hid hE
      have HS1 := Lib.hid hS1; have HO1 := Lib.hid ho1; have HSt1 := Lib.hid hs1; have HJ1 := Lib.hid hj1; have HNA := Lib.hid hna
      have HOK := Lib.hid hok1; have HOK2 := Lib.hid hok2
      have HWd := Lib.hid hwd; have HWl := Lib.hid hwlive
      have HDk := Lib.hid hdk
      clear hE he hS1 ho1 hs1 hj1 hna hok1 hok2 hok hde hfr hdk hwd hwlive f4
      simp only [Option.getD_some] at CX
      go_wp2_with fail
      refine CX.out.mono ?_
      rintro e w2 ⟨u, rfl, hu, hb⟩
      have HB2 := Lib.hid hb; have HU2 := Lib.hid hu
      clear hb hu CX
      have hsh := own_shape HU2.out
      obtain ⟨ao, c, hv⟩ := hsh
      subst hv
      have f1' : (((ws.length : Nat) : Int) == 0) = false := beq_eq_false_iff_ne.2 (by omega)
      have hj2 := HJ1.out.below HB2.out
      have CG := Lib.hid (grow_any (ws.length + 1) hj2 HOK.out (by rw [HDk.out]; exact hnd) (by omega))
      have hcast : ((ws.length + 1 : Nat) : Int) = (ws.length : Int) + 1 := by omega
      rw [hcast] at CG
      clear hcast
      have hs2 := HSt1.out.below HB2.out
      have HJ2 := Lib.hid hj2; have HSt2 := Lib.hid hs2
      clear hj2 hs2
      go_wp2_with fail
      refine CG.out.mono ?_
      rintro e w3 ⟨rfl, hj3, ho3, _⟩
      have hs3 : Stands S1 w3 p Dk := HSt2.out.kept ho3 (fun k hk hka => HNA.out (hka ▸ hk))
      have hou : ∀ g off n' c', Value.slice ao ws.length c = .slice (some ⟨g, off, none⟩) n' c' → wr.heap.size ≤ g := fun g off n' c' hv => (HU2.out.lt g (by rw [hv]; rfl)).1
      have hsl3 : SlW w3 (.slice ao ws.length c) ws := SlW.only HU2.out.sl ho3 (fun g off n' c' hv hg => by have := hou g off n' c' hv; have := HJ1.out.lt; omega)
      have hout : Outs S1 (.slice ao ws.length c) := fun g off n' c' hv hg => by have := hou g off n' c' hv; have := HSt1.out.lt _ hg; omega
      have CW := Lib.hid (writeAll_any hj3 hs3 HNA.out (by omega) (by omega) hsl3 hout)
      have HF : Hid (∀ w4, Leaves S1 w3 w4 p (Dk.wrs ws).2 → JLeaves 64 S w w4 a p (Dk.wrs ws).2 (Jk.grow (ws.length + 1))) := fun w4 h => by
        refine JLeaves.next HS1.out HO1.out (JLeaves.from HB2.out (JLeaves.next (fun _ h => .inl h) (ho3.mono (fun _ _ h => .inr h)) (JLeaves.of h hj3 HNA.out)))
      clear hj3 hs3 ho3 hou hsl3 hout CG
      generalize Dk.wrs ws = R at *
      obtain ⟨er, DR⟩ := R
      simp only at HE CW HF HWd HWl hwl
      by_cases her : er = 0
      · have her' : (er != 0) = false := by simp [her]
        rw [if_neg (by simpa using her)] at HE
        go_wp2_with fail
        refine CW.out.mono ?_
        rintro e w4 ⟨rfl, hv4⟩
        have HF4 := Lib.hid (HF.out _ hv4); clear hv4
        go_wp2
        go_roundg m
        case measure => exact Nat.lt_succ_self m
        case rel =>
          refine ⟨_, _, HE.out.symm, ?_, HOK2.out, HWl.out her, ?_, ?_, HF4.out⟩
          · rw [hl2]; omega
          · rw [HWd.out]; exact HDk.out
          · rw [hl2]; omega
      · have her' : (er != 0) = true := by simp [her]
        rw [if_pos (by simpa using her)] at HE
        go_wp2_with fail
        refine CW.out.mono ?_
        rintro e w4 ⟨rfl, hv4⟩
        have HF4 := Lib.hid (HF.out _ hv4); clear hv4
        go_wp2
        go_ret
        exact ⟨by rw [HE.out]; rfl, by rw [HE.out]; exact HF4.out⟩
end
end Go.Proofs.Ytpoekkclkohanaa

/- What add answers and leaves behind: a frame is laid behind those that are there. -/
import Derived.Test.YtodfcbpimglhdaaZK
import Derived.Test.YtodfcbpimglhdaaZH
import Derived.Test.YtodfcbpimglhdaaZJ
import Derived.Test.YtodfcbpimglhdaaZF
import Derived.Deep.LoopGhost

namespace Go.Proofs.Ytodfcbpimglhdaa
open Go.RowKit
open Fr (SlW SlS WritesAt StrsAt OwnW flatI two_cells two_one own_pushW step_append_own)

section
variable {S S1 T : Nat → Prop} {w w1 w2 w' : World} {a p : Nat} {J J1 J2 : JS} {D D1 D2 : DevS} {v : Value} {top : ByteArray} {ds : List ByteArray}

/-- The writes of the first k blocks of a frame's data. -/
def JS.dataK (J : JS) (ds : List ByteArray) (k : Nat) : List (Int × ByteArray) := (List.range k).map fun i => (((J.pos (i + 1) : Nat) : Int), ds.getD i ByteArray.empty)
theorem dataK_succ (J : JS) (ds : List ByteArray) (k : Nat) : J.dataK ds (k + 1) = J.dataK ds k ++ [(((J.pos (k + 1) : Nat) : Int), ds.getD k ByteArray.empty)] := by
  unfold JS.dataK; rw [List.range_succ, List.map_append]; rfl
theorem dataK_len (J : JS) (ds : List ByteArray) (k : Nat) : (J.dataK ds k).length = k := by simp [JS.dataK]
theorem dataW_eq (J : JS) (ds : List ByteArray) : J.dataW ds = J.dataK ds ds.length ++ [(((J.pos (ds.length + 1) : Nat) : Int), noughts)] := rfl

set_option maxRecDepth 100000 in
set_option maxHeartbeats 2000000 in
theorem add_any (b off c : Nat) (hj : Jr 85 w a p J) (hd : Stands S w p D) (ha : ¬ S a) (ok : J.Ok D.disk.length) (hp : D.pend.length ≤ 800000) (hl : ds.length ≤ 48) (hf : J.full + ds.length + 1 ≤ J.log)
    (hb : b < w.heap.size) (hc : StrsAt w b off (top :: ds)) (hsb : ¬ S b) :
    Calls Try.prog 63 #[.pointer (some ⟨a, 0, none⟩), .slice (some ⟨b, off, none⟩) (ds.length + 1) c] w fun e w' => e = .returned (.int .i64 (J.addF D top ds).1) ∧ JLeaves 85 S w w' a p (J.addF D top ds).2.1 (J.addF D top ds).2.2 := by
  obtain ⟨i0, hi, hz0, hz1, hz2⟩ := info_parts Try.infoW
  have HZ2 := Lib.hid hz2; clear hz2
  have hnd := hd.ok.few
  have hll := ok.l1
  have hc0 : w.cell? ⟨b, off, none⟩ = some (.string top) := hc 0 (by simp)
  have HC : Hid (∀ k (h : k < ds.length), w.cell? ⟨b, off + (k + 1), none⟩ = some (.string (ds.getD k ByteArray.empty))) := by
    intro k hk
    have := hc (k + 1) (by simpa using hk)
    rw [this]; simp [hk]
  clear hc
  have HJ := Lib.hid hj; clear hj
  have HD := Lib.hid hd; clear hd
  have HA := Lib.hid ha; clear ha
  have HOK := Lib.hid ok; clear ok
  have HSB := Lib.hid hsb; clear hsb
  have CB : Hid (∀ W i, J.full + i ≤ J.log → Below w.heap.size w W → Calls Try.prog 67 #[.pointer (some ⟨a, 0, none⟩), .int .i64 ((i : Nat) : Int)] W fun e w' => e = .returned (.int .i64 (J.pos i)) ∧ w' = W.drew) :=
    fun W i h hW => behind_drew i (HJ.out.below hW) HOK.out hnd h
  obtain ⟨n, hn⟩ : ∃ n, ds.length = n := ⟨_, rfl⟩
  rw [hn] at hl hf HC ⊢
  have HN := Lib.hid hn; clear hn
  go_enter Try.func63, Try.ntmps63
  go_wp2_with fail
  go_loopw [5, 6] (fun wv i wr => ∃ k : Nat, k ≤ n ∧ i = .int .i64 ((k + 1 : Nat) : Int) ∧ Hid (OwnW w.heap.size wr wv (J.dataK ds k)) ∧ Hid (Below w.heap.size w wr)) (fun _ i _ => n + 1 - (intOf i).toNat)
  case atStart => exact ⟨0, Nat.zero_le _, rfl, OwnW.nil _ _, Below.refl _ _⟩
  case round =>
    obtain ⟨k, hk, rfl, HO, HB⟩ := hrel
    have hbr := HB.out.size
    by_cases hlt : k < n
    · have c1r := (HB.out.cell (p := ⟨b, off + (k + 1), none⟩) hb).trans (HC.out k hlt)
      have hlen : (J.dataK ds k).length ≤ 48 := by rw [dataK_len]; omega
      have HSN := Lib.hid (dataK_succ J ds k)
      have CB1 : Hid (∀ W, Below w.heap.size w W → Calls Try.prog 67 #[.pointer (some ⟨a, 0, none⟩), .int .i64 ((k + 1 : Nat) : Int)] W fun e w' => e = .returned (.int .i64 (J.pos (k + 1))) ∧ w' = W.drew) := fun W hW => CB.out W (k + 1) (by omega) hW
      obtain ⟨M, hM⟩ : ∃ M, J.dataK ds k = M := ⟨_, rfl⟩
      rw [hM] at HO HSN hlen
      clear hM
      generalize ds.getD k ByteArray.empty = pt at *
      generalize J.pos (k + 1) = pi at *
      obtain ⟨ao2, c2, hv, _⟩ := HO.out.sl
      subst hv
      have i1 : (k : Int) + 1 < (n : Int) + 1 := by omega
      have i0' : (0 : Int) ≤ (k : Int) + 1 := by omega
      go_wp2_with fail
      go_region_law (first
        | (refine step_append_own rfl (.tmp 15) (.tmp 24) 42 rfl w.heap.size 71 i0 (.agg #[.int .i64 0, .string ⟨#[]⟩]) 2 24 Try.underlying42 hi hz0 hz1 HZ2.out rfl (by omega) (.slice ao2 M.length c2) M.length (flatI M) (by kernel_rfl) ?own ⟨wr.heap.size, 0, none⟩ 1 1 [.int .i64 (pi : Int), .string pt] (by kernel_rfl) rfl (two_cells rfl) two_one (by unfold maxLen; omega) (by omega) ?base ?_
           case own => exact World.ownsRow.alloc (w := wr) HO.out _
           case base => simp; omega
           intro v1 w3 hown hgrow
           have HO3 := Lib.hid (own_pushW hown)
           have HB3 : Hid (Below w.heap.size w w3) := (((HB.out.drew).drew).alloc hbr _).grown hgrow (by simp; omega) (fun q hq => (HO.out.lt q hq).1)
           clear hown hgrow)
        | (go_simp; go_at_call 67; refine (CB1.out _ ?_).mono ?_; exact HB.out.drew; rintro e w1 ⟨rfl, rfl⟩))
      all_goals
        go_wp2
        go_roundw
        case rel => exact ⟨k + 1, by omega, by go_num, by show OwnW _ _ _ _; rw [HSN.out]; exact HO3.out, HB3⟩
        case measure => simp [intOf]; omega
    · have hkn : k = n := by omega
      subst hkn
      have i1 : ¬ (k : Int) + 1 < (k : Int) + 1 := by omega
      have CB1 : Hid (∀ W, Below w.heap.size w W → Calls Try.prog 67 #[.pointer (some ⟨a, 0, none⟩), .int .i64 ((k : Int) + 1)] W fun e w' => e = .returned (.int .i64 (J.pos (k + 1))) ∧ w' = W.drew) := fun W hW => CB.out W (k + 1) (by omega) hW
      have CB0 : Hid (∀ W, Below w.heap.size w W → Calls Try.prog 67 #[.pointer (some ⟨a, 0, none⟩), .int .i64 0] W fun e w' => e = .returned (.int .i64 (J.pos 0)) ∧ w' = W.drew) := fun W hW => CB.out W 0 (by omega) hW
      have hlen : (J.dataK ds k).length ≤ 48 := by rw [dataK_len]; omega
      have HDW : Hid (J.dataW ds = J.dataK ds k ++ [(((J.pos (k + 1) : Nat) : Int), noughts)]) := by show _ = _; rw [dataW_eq, HN.out]
      obtain ⟨ao2, c2, hv, _⟩ := HO.out.sl
      subst hv
      obtain ⟨M, hM⟩ : ∃ M, J.dataK ds k = M := ⟨_, rfl⟩
      rw [hM] at HO HDW hlen ⊢
      clear hM
      obtain ⟨pn, hpn⟩ : ∃ x, J.pos (k + 1) = x := ⟨_, rfl⟩
      rw [hpn] at HDW CB1
      clear hpn
      obtain ⟨NN, hNN⟩ : ∃ x, noughts = x := ⟨_, rfl⟩
      have CN : Hid (∀ W, Calls Try.prog 55 #[.int .i64 256] W fun e w' => e = .returned (.string NN) ∧ Below W.heap.size W w') := fun W => by rw [← hNN]; exact jnoughts_all W
      rw [hNN] at HDW
      clear hNN
      go_wp2_with fail
      refine (CB1.out _ HB.out).mono ?_
      rintro e w1 ⟨rfl, rfl⟩
      go_wp2_with fail
      refine (CN.out _).mono ?_
      rintro e w2 ⟨rfl, hb2⟩
      have HB2 : Hid (Below wr.heap.size wr w2) := Fr.below_predrew hb2
      clear hb2
      have hbr2 := HB2.out.size
      go_wp2_with (at_builtin; go_loud (refine wpList_append_own _ rfl _ _ 42 rfl w.heap.size 71 i0 _ 2 24 Try.underlying42 hi hz0 hz1 HZ2.out rfl (by decide) _ _ _ rfl ((HO.out.below HB2.out).alloc _) _ 1 1 [.int .i64 (pn : Int), .string NN] rfl rfl (two_cells rfl) two_one ?c3 ?c4 ?c5 ?_))
      case c3 => unfold maxLen; omega
      case c4 => omega
      case c5 => simp; omega
      intro v1 w3 hown hgrow _
      have hO3 := own_pushW hown
      have HB3 : Hid (Below w.heap.size w w3) := ((HB.out.trans (HB2.out.mono hbr)).alloc (by omega) _).grown hgrow (by simp; omega) (fun q hq => (HO.out.lt q hq).1)
      rw [← HDW.out] at hO3
      have HO3 := Lib.hid hO3
      clear hown hgrow hO3 HO HB2 HB CB1 CN
      have hSO : Outs S v1 := by
        intro g off' n' c' hv hg
        have h1 := (HO3.out.lt g (by rw [hv]; rfl)).1
        have h2 := HD.out.lt g hg
        omega
      have CS := Lib.hid (jsettle_any (L := J.dataW ds) (HJ.out.below HB3.out) (HD.out.below HB3.out) HA.out (by rw [HDW.out]; simp; omega) (by omega) HO3.out.sl hSO)
      have HLd : Hid ((D.stl (J.dataW ds)).2.pend.length ≤ 850000 ∧ (D.stl (J.dataW ds)).2.disk.length = D.disk.length) := by
        have := D.stl_len (J.dataW ds)
        refine ⟨?_, D.stl_disk _⟩
        rw [HDW.out, List.length_append, List.length_singleton] at this
        rw [HDW.out]; omega
      have HAd : Hid (J.addF D top ds = if (D.stl (J.dataW ds)).1 ≠ 0 then ((D.stl (J.dataW ds)).1, (D.stl (J.dataW ds)).2, J) else
          if ((D.stl (J.dataW ds)).2.stl [(((J.pos 0 : Nat) : Int), top)]).1 ≠ 0 then (((D.stl (J.dataW ds)).2.stl [(((J.pos 0 : Nat) : Int), top)]).1, ((D.stl (J.dataW ds)).2.stl [(((J.pos 0 : Nat) : Int), top)]).2, J) else
          (0, ((D.stl (J.dataW ds)).2.stl [(((J.pos 0 : Nat) : Int), top)]).2, J.grow (k + 1))) := by
        show J.addF D top ds = _
        unfold JS.addF
        rw [HN.out]
      generalize D.stl (J.dataW ds) = R1 at *
      obtain ⟨er1, D1⟩ := R1
      simp only at CS HLd HAd
      obtain ⟨ao3, c3, hv3, _⟩ := HO3.out.sl
      subst hv3
      clear HDW HO3 hSO
      go_wp2_with fail
      refine CS.out.mono ?_
      rintro e w4 ⟨rfl, hv4⟩
      have HV4 := Lib.hid (Leaves.from HB3.out hv4); clear hv4 CS
      by_cases he1 : er1 = 0
      · have he1' : (er1 != 0) = false := by simp [he1]
        rw [if_neg (by simpa using he1)] at HAd
        obtain ⟨S4, hS4, hs4, ho4⟩ := HV4.out
        have hna : ¬ S4 a := fun h => by rcases hS4 a h with h | h; exact HA.out h; have := HJ.out.lt; omega
        have hj4 := HJ.out.only ho4 HA.out
        have hok4 : J.Ok D1.disk.length := by rw [HLd.out.2]; exact HOK.out
        have hc4 : w4.cell? ⟨b, off, none⟩ = some (.string top) := (ho4.cell (p := ⟨b, off, none⟩) hb HSB.out).trans hc0
        have CB4 : Hid (∀ W, Below w4.heap.size w4 W → Calls Try.prog 67 #[.pointer (some ⟨a, 0, none⟩), .int .i64 0] W fun e w' => e = .returned (.int .i64 (J.pos 0)) ∧ w' = W.drew) := fun W hW =>
          behind_drew 0 (hj4.below hW) hok4 (by rw [HLd.out.2]; exact hnd) (by omega)
        obtain ⟨R2, hR2⟩ : ∃ R, D1.stl [(((J.pos 0 : Nat) : Int), top)] = R := ⟨_, rfl⟩
        rw [hR2] at HAd
        have CS4 : Hid (∀ W, Below w4.heap.size w4 W → Calls Try.prog 56 #[.pointer (some ⟨a, 0, none⟩), .slice (some ⟨W.heap.size, 0, none⟩) 1 1] (W.alloc (.cells #[.int .i64 ((J.pos 0 : Nat) : Int), .string top] 71)) fun e w' => e = .returned (.int .i64 R2.1) ∧ Leaves S4 w4 w' p R2.2) := by
          intro W hW
          rw [← hR2]
          exact (settle_one _ top (hj4.below hW) (hs4.below hW) hna (by have := HLd.out.1; omega)).mono fun e w' ⟨he, hl⟩ => ⟨he, Leaves.from hW hl⟩
        have HJ4 := Lib.hid hj4; have HS4 := Lib.hid hS4; have HSt4 := Lib.hid hs4; have HO4 := Lib.hid ho4; have HN4 := Lib.hid hna
        have HOK4 := Lib.hid hok4
        clear hj4 hS4 hs4 ho4 hna hok4
        have HD2 : Hid (R2.2.disk.length = D.disk.length) := by rw [← hR2]; show _ = _; rw [D1.stl_disk]; exact HLd.out.2
        clear hR2 hc0 CB CB0
        obtain ⟨p0, hp0⟩ : ∃ x, J.pos 0 = x := ⟨_, rfl⟩
        rw [hp0] at CB4 CS4
        clear hp0
        obtain ⟨er2, D2⟩ := R2
        simp only at HAd CS4 HD2
        have i2 : (0 : Int) < (k : Int) + 1 := by omega
        have hb4 : b < w4.heap.size := Nat.lt_of_lt_of_le hb HO4.out.size
        have HKB : Hid (∀ w' D', Leaves S4 w4 w' p D' → w'.cell? ⟨b, off, none⟩ = some (.string top)) := fun w' D' h => (h.only.cell (p := ⟨b, off, none⟩) hb4 (fun hs => by rcases HS4.out b hs with h | h; exact HSB.out h; omega)).trans hc4
        go_wp2_with fail
        go_region_held3 (fun W => W.cell? ⟨b, off, none⟩ = some (.string top))
          (first | exact hc4 | exact HKB.out _ _ (by assumption) | go_keep)
          (first | (go_at_call 67; refine (CB4.out _ ?_).mono ?_; exact (Below.refl _ _).drew; rintro e w' ⟨rfl, rfl⟩)
                 | (go_at_call 56; refine (CS4.out w4.drew.drew ?_).mono ?_; exact ((Below.refl _ _).drew).drew; rintro r w6 ⟨rfl, hv6⟩))
        have hj6 := HJ4.out.only hv6.only HN4.out
        by_cases he2 : er2 = 0
        · have he2' : (er2 != 0) = false := by simp [he2]
          rw [if_neg (by simpa using he2)] at HAd
          have CG := Lib.hid (grow_any (k + 1) hj6 (n := D2.disk.length) (by rw [HD2.out]; exact HOK.out) (by rw [HD2.out]; exact hnd) (by omega))
          obtain ⟨S6, hS6, hs6, ho6⟩ := hv6
          have hna6 : ¬ S6 a := fun h => by rcases hS6 a h with h | h; exact HN4.out h; have := HJ4.out.lt; omega
          have HS6 := Lib.hid hS6; have HSt6 := Lib.hid hs6; have HO6 := Lib.hid ho6; have HN6 := Lib.hid hna6
          clear hS6 hs6 ho6 hna6 hj6
          go_wp2_with fail
          refine CG.out.mono ?_
          rintro e w7 ⟨rfl, hj7, ho7, hz7⟩
          have HJ7 := Lib.hid hj7; have HO7 := Lib.hid ho7
          clear hj7 ho7 hz7 CG
          go_wp2
          go_ret
          refine ⟨by rw [HAd.out]; rfl, ?_⟩
          rw [HAd.out]
          exact JLeaves.next HS4.out (HO4.out.mono (fun _ _ h => .inl h)) ⟨S6, HS6.out, HSt6.out.kept HO7.out (fun k hk hka => HN6.out (hka ▸ hk)), HJ7.out, (HO6.out.mono (T := fun k => S4 k ∨ k = a) (fun _ _ h => .inl h)).trans HO7.out (fun _ _ h => .inr h)⟩
        · have he2' : (er2 != 0) = true := by simp [he2]
          rw [if_pos (by simpa using he2)] at HAd
          have HF : Hid (JLeaves 85 S w w6 a p D2 J) := JLeaves.next HS4.out (HO4.out.mono (fun _ _ h => .inl h)) (JLeaves.of hv6 HJ4.out HN4.out)
          clear hj6 hv6
          go_wp2
          go_ret
          exact ⟨by rw [HAd.out]; rfl, by rw [HAd.out]; exact HF.out⟩
      · have he1' : (er1 != 0) = true := by simp [he1]
        rw [if_pos (by simpa using he1)] at HAd
        have HF : Hid (JLeaves 85 S w w4 a p D1 J) := JLeaves.of HV4.out HJ.out HA.out
        go_wp2
        go_ret
        exact ⟨by rw [HAd.out]; rfl, by rw [HAd.out]; exact HF.out⟩
end
end Go.Proofs.Ytodfcbpimglhdaa
/- What Commit answers and leaves behind, for every journal over every device. -/
namespace Go.Proofs.Ytodfcbpimglhdaa
open Go.RowKit
open Fr (SlW SlS WritesAt StrsAt OwnS)

section
variable {S S1 T : Nat → Prop} {w w1 w2 w' : World} {a p : Nat} {J J1 J2 : JS} {D D1 D2 : DevS} {v : Value} {L : List (Int × ByteArray)}

theorem Outs.or_ne (h : Outs S v) (ha : ∀ g off n c, v = .slice (some ⟨g, off, none⟩) n c → g ≠ a) : Outs (fun k => S k ∨ k = a) v := fun g off n c hv hs => by
  rcases hs with hs | hs
  · exact h g off n c hv hs
  · exact ha g off n c hv hs
theorem Outs.grown {w : World} (h : Outs S v) (hl : ∀ g off n c, v = .slice (some ⟨g, off, none⟩) n c → g < w.heap.size) (hS : ∀ k, S1 k → S k ∨ w.heap.size ≤ k) : Outs S1 v := fun g off n c hv hs => by
  rcases hS g hs with h1 | h1
  · exact h g off n c hv h1
  · have := hl g off n c hv; omega
theorem JS.wrok_frame {n : Nat} (hn : n ≤ 4096) {x : Int × ByteArray} (h : J.WrOk n x) : Fr.WrOk x := by
  obtain ⟨h1, h2, h3⟩ := h
  unfold JS.home at h1
  exact ⟨by omega, by omega, h3⟩
/-- A slice that lies where there is something, and not at block a. -/
structure Lies (w : World) (a : Nat) (v : Value) : Prop where
  lt : ∀ g off n c, v = .slice (some ⟨g, off, none⟩) n c → g < w.heap.size
  ne : ∀ g off n c, v = .slice (some ⟨g, off, none⟩) n c → g ≠ a

set_option maxRecDepth 100000 in
set_option maxHeartbeats 2000000 in
theorem commit_any (hj : Jr 85 w a p J) (hd : Stands S w p D) (ha : ¬ S a) (ok : J.Ok D.disk.length) (hp : D.pend.length ≤ 700000) (hl : L.length ≤ 1000) (hs : ∀ x ∈ L, x.2.size ≤ maxLen) (h : SlW w v L) (hou : Outs S v) (hli : Lies w a v) :
    Calls Try.prog 30 #[.pointer (some ⟨a, 0, none⟩), v] w fun e w' => e = .returned (.int .i64 (J.commit D L).1) ∧ JLeaves 85 S w w' a p (J.commit D L).2.1 (J.commit D L).2.2 := by
  have CC := Lib.hid (jcheck_any hj hd ok hl hs h)
  have hnd := hd.ok.few
  have hsh := h
  obtain ⟨lao, lc, rfl, _⟩ := hsh
  have HJ := Lib.hid hj; clear hj
  have HD := Lib.hid hd; clear hd
  have HA := Lib.hid ha; clear ha
  have HOK := Lib.hid ok; clear ok
  have HSl := Lib.hid h; clear h
  have HOu := Lib.hid hou; clear hou
  have HLi := Lib.hid hli; clear hli
  by_cases hc : J.chk D.disk.length L = 0
  · obtain ⟨l1, l2, hw⟩ := (J.chk_ok _ L).1 hc
    have HPk : Hid (Fr.pk J.next L = (Fr.packL J.next L, 0)) := by
      show _ = _
      unfold Fr.pk
      rw [if_pos ((Fr.chk_ok L).2 ⟨l1, l2, fun x hx => JS.wrok_frame hnd (hw x hx)⟩)]
    have CP : Hid (∀ W, Below w.heap.size w W → Calls Try.prog 61 #[.int .u64 (J.next : Int), .slice lao L.length lc] W fun e w' => ∃ u, e = .returned (.tuple #[u, .int .i64 0]) ∧ OwnS W.heap.size w' u (Fr.packL J.next L) ∧ Below W.heap.size W w') := fun W hW => by
      have := Fr.pack_any J.next L _ W HOK.out.n64 hl hs (HSl.out.below hW)
      rw [HPk.out] at this
      exact this
    have HCm0 : Hid (J.commit D L = (fun c : Int × DevS × JS => if c.1 ≠ 0 then c else if (c.2.2.addF c.2.1 (Fr.bs (Fr.topL J.next L)) (L.map (·.2))).1 ≠ 0 then c.2.2.addF c.2.1 (Fr.bs (Fr.topL J.next L)) (L.map (·.2)) else
        (((c.2.2.addF c.2.1 (Fr.bs (Fr.topL J.next L)) (L.map (·.2))).2.1.wrs L).1, ((c.2.2.addF c.2.1 (Fr.bs (Fr.topL J.next L)) (L.map (·.2))).2.1.wrs L).2, (c.2.2.addF c.2.1 (Fr.bs (Fr.topL J.next L)) (L.map (·.2))).2.2)) (if J.left < L.length + 2 then J.ckp D else (0, D, J))) := by
      show _ = _
      unfold JS.commit
      rw [if_neg (by simpa using hc)]
    rw [hc] at CC
    have c6 := HJ.out.c6
    have HW := Lib.hid hw
    clear hc hs hw HPk
    go_enter Try.func30, Try.ntmps30
    go_wp2_with fail
    refine CC.out.mono ?_
    rintro e w1 ⟨rfl, hb1⟩
    have HB1 := Lib.hid hb1; clear hb1 CC
    have c6' := (HB1.out.cell (p := ⟨a, 6, none⟩) HJ.out.lt).trans c6
    clear c6
    go_wp2_with fail
    refine (CP.out _ HB1.out).mono ?_
    rintro e w2 ⟨u, rfl, hu2, hb2⟩
    have HB2 := Lib.hid (HB1.out.trans (hb2.mono HB1.out.size))
    obtain ⟨g, c4, hv, hcap, hgb, hg2, hst, _⟩ := hu2.here (by simp [Fr.packL])
    have hlp : (Fr.packL J.next L).length = L.length + 1 := by simp [Fr.packL]
    rw [hlp] at hv hcap
    subst hv
    have hgw : w.heap.size ≤ g := Nat.le_trans HB1.out.size hgb
    have HRow := Lib.hid hst
    have hmB := HB1.out.size
    clear hu2 hb2 hst hlp HB1 c6'
    have CL := Lib.hid (left_drew (HJ.out.below HB2.out) HOK.out hnd)
    have hlf := HOK.out.fu
    have hlog := HOK.out.l1
    have hleft : J.left = J.log - J.full := rfl
    by_cases hlt : J.left < L.length + 2
    · rw [if_pos hlt] at HCm0
      have CK : Hid (∀ W, Below w2.heap.size w2 W → Calls Try.prog 35 #[.pointer (some ⟨a, 0, none⟩)] W fun e w' => e = .returned (.int .i64 (J.ckp D).1) ∧ JLeaves 85 S w2 w' a p (J.ckp D).2.1 (J.ckp D).2.2) := fun W hW =>
        (ckp_any ((HJ.out.below HB2.out).below hW) ((HD.out.below HB2.out).below hW) HA.out HOK.out (by omega)).mono fun e w' ⟨he, hv⟩ => ⟨he, JLeaves.from hW hv⟩
      have HCd : Hid ((J.ckp D).2.1.disk.length = D.disk.length ∧ (J.ckp D).2.1.pend.length ≤ 710000 ∧ ((J.ckp D).1 = 0 → (J.ckp D).2.2 = J.next')) := ⟨JS.ckp_disk, by have := JS.ckp_len (J := J) (D := D); omega, JS.ckp_good⟩
      generalize J.ckp D = R1 at *
      obtain ⟨er1, D0, J0⟩ := R1
      simp only at CK HCd HCm0
      have hlt' : (J.left : Int) < (L.length : Int) + 1 + 1 := by omega
      go_wp2_with fail
      refine CL.out.mono ?_
      rintro e w3 ⟨rfl, rfl⟩
      go_wp2_with fail
      refine (CK.out _ ((Below.refl _ _).drew)).mono ?_
      rintro e w4 ⟨rfl, hv4⟩
      obtain ⟨S0, hS0, hs0, hj0, ho0⟩ := hv4
      have hS0' : ∀ k, S0 k → S k ∨ w.heap.size ≤ k := fun k hk => by rcases hS0 k hk with h | h; exact .inl h; exact .inr (by have := HB2.out.size; omega)
      have hO0' : Only (fun k => S k ∨ k = a) w w4 := (Only.of_below _ HB2.out (Nat.le_refl _)).trans ho0 (fun _ _ h => h)
      by_cases he1 : er1 = 0
      · have he1' : (er1 != 0) = false := by simp [he1]
        rw [if_neg (by simpa using he1)] at HCm0
        obtain ⟨hk1, hk2, hk3⟩ := HCd.out
        have hJ0 := hk3 he1
        have HCm := HCm0; clear HCm0
        have HJ0 := Lib.hid hj0; have HD0 := Lib.hid hs0
        have HN0 : Hid (¬ S0 a) := fun h => by rcases hS0 a h with h | h; exact HA.out h; have := (HJ.out.below HB2.out).lt; omega
        have HOK0 : Hid (J0.Ok D0.disk.length) := by show J0.Ok _; rw [hk1, hJ0]; exact HOK.out.next'
        have HDk0 := Lib.hid hk1
        have hfu0 : J0.full = 0 ∧ J0.log = J.log := by rw [hJ0]; exact ⟨rfl, rfl⟩
        have hl50 := HOK.out.l0
        have hng : ¬ (S g ∨ g = a) := fun h => by rcases h with h | h; have := HD.out.lt _ h; omega; have := HJ.out.lt; omega
        have hg0 : g < w4.heap.size := Nat.lt_of_lt_of_le hg2 ho0.size
        have HNg : Hid (¬ S0 g) := fun h => by rcases hS0 g h with h | h; exact hng (.inl h); omega
        have HRow0 : Hid (StrsAt w4 g 0 (Fr.bs (Fr.topL J.next L) :: L.map (·.2))) := fun j hj => (ho0.cell (p := ⟨g, 0 + j, none⟩) hg2 hng).trans (HRow.out j hj)
        have HSl0 : Hid (SlW w4 (.slice lao L.length lc) L) := SlW.only HSl.out hO0' (HOu.out.or_ne HLi.out.ne)
        have HOu0 : Hid (Outs S0 (.slice lao L.length lc)) := HOu.out.grown HLi.out.lt hS0'
        have HNa0 := Lib.hid HLi.out.ne
        have HLt0 : Hid (∀ g off n c, (Value.slice lao L.length lc) = .slice (some ⟨g, off, none⟩) n c → g < w4.heap.size) := fun g off n c hv => Nat.lt_of_lt_of_le (HLi.out.lt g off n c hv) hO0'.size
        have HS0 := Lib.hid hS0'; have HO0 := Lib.hid hO0'
        clear hj0 hs0 hS0 hS0' ho0 hO0' hk3 hJ0 hng CK CL HRow CP
        have hf0 : J0.full + (L.map (·.2)).length + 1 ≤ J0.log := by rw [List.length_map]; omega
        have CA := Lib.hid (add_any (ds := L.map (·.2)) (top := Fr.bs (Fr.topL J.next L)) g 0 c4 HJ0.out HD0.out HN0.out HOK0.out (by omega) (by rw [List.length_map]; omega) hf0 hg0 HRow0.out HNg.out)
        rw [List.length_map] at CA
        have HX : Hid ((J0.addF D0 (Fr.bs (Fr.topL J.next L)) (L.map (·.2))).2.1.disk.length = D.disk.length ∧ (J0.addF D0 (Fr.bs (Fr.topL J.next L)) (L.map (·.2))).2.1.pend.length ≤ 800000) := by
          refine ⟨JS.addF_disk.trans HDk0.out, ?_⟩
          have := JS.addF_len (J := J0) (D := D0) (top := Fr.bs (Fr.topL J.next L)) (ds := L.map (·.2))
          rw [List.length_map] at this
          omega
        generalize J0.addF D0 (Fr.bs (Fr.topL J.next L)) (L.map (·.2)) = R2 at *
        obtain ⟨er2, D2, J2⟩ := R2
        simp only at CA HX HCm
        go_wp2_with fail
        refine CA.out.mono ?_
        rintro e w5 ⟨rfl, hv5⟩
        obtain ⟨S5, hS5, hs5, hj5, ho5⟩ := hv5
        by_cases he2 : er2 = 0
        · have he2' : (er2 != 0) = false := by simp [he2]
          rw [if_neg (by simpa using he2)] at HCm
          have hn5 : ¬ S5 a := fun h => by rcases hS5 a h with h | h; exact HN0.out h; have := HJ0.out.lt; omega
          have hsl5 : Fr.SlW w5 (.slice lao L.length lc) L := SlW.only HSl0.out ho5 (HOu0.out.or_ne HNa0.out)
          have hou5 : Outs S5 (.slice lao L.length lc) := HOu0.out.grown HLt0.out hS5
          have CW := Lib.hid (writeAll_any hj5 hs5 hn5 (by omega) (by have := HX.out.2; omega) hsl5 hou5)
          have HF : Hid (∀ w' , Leaves S5 w5 w' p (D2.wrs L).2 → JLeaves 85 S w w' a p (D2.wrs L).2 J2) := fun w' h => JLeaves.next HS0.out HO0.out (JLeaves.next hS5 ho5 (JLeaves.of h hj5 hn5))
          clear hS5 hs5 hj5 ho5 hn5 hsl5 hou5
          go_wp2_with fail
          refine CW.out.mono ?_
          rintro e w6 ⟨rfl, hv6⟩
          have HF2 := Lib.hid (HF.out _ hv6); clear hv6
          go_wp2
          go_ret
          exact ⟨by rw [HCm.out]; rfl, by rw [HCm.out]; exact HF2.out⟩
        · have he2' : (er2 != 0) = true := by simp [he2]
          rw [if_pos (by simpa using he2)] at HCm
          have HF : Hid (JLeaves 85 S w w5 a p D2 J2) := JLeaves.next HS0.out HO0.out ⟨S5, hS5, hs5, hj5, ho5⟩
          clear hS5 hs5 hj5 ho5
          go_wp2
          go_ret
          exact ⟨by rw [HCm.out]; rfl, by rw [HCm.out]; exact HF.out⟩
      · have he1' : (er1 != 0) = true := by simp [he1]
        rw [if_pos (by simpa using he1)] at HCm0
        have HF : Hid (JLeaves 85 S w w4 a p D0 J0) := ⟨S0, hS0', hs0, hj0, hO0'⟩
        clear hS0 hs0 hj0 ho0 hS0' hO0'
        go_wp2
        go_ret
        exact ⟨by rw [HCm0.out]; rfl, by rw [HCm0.out]; exact HF.out⟩
    · rw [if_neg hlt] at HCm0
      have HCm : Hid (J.commit D L = if (J.addF D (Fr.bs (Fr.topL J.next L)) (L.map (·.2))).1 ≠ 0 then J.addF D (Fr.bs (Fr.topL J.next L)) (L.map (·.2)) else
        (((J.addF D (Fr.bs (Fr.topL J.next L)) (L.map (·.2))).2.1.wrs L).1, ((J.addF D (Fr.bs (Fr.topL J.next L)) (L.map (·.2))).2.1.wrs L).2, (J.addF D (Fr.bs (Fr.topL J.next L)) (L.map (·.2))).2.2)) := HCm0.out
      clear HCm0
      have hlt' : ¬ (J.left : Int) < (L.length : Int) + 1 + 1 := by omega
      go_wp2_with fail
      refine CL.out.mono ?_
      rintro e w3 ⟨rfl, rfl⟩
      obtain ⟨w4, hw4⟩ : ∃ W, w2.drew = W := ⟨_, rfl⟩
      have hb4 : Below w2.heap.size w2 w4 := by rw [← hw4]; exact (Below.refl _ _).drew
      have hB4 : Below w.heap.size w w4 := HB2.out.trans (hb4.mono HB2.out.size)
      rw [hw4]
      clear hw4
      have HJ0 : Hid (Jr 85 w4 a p J) := HJ.out.below hB4
      have HD0 : Hid (Stands S w4 p D) := HD.out.below hB4
      have HN0 := HA
      have HOK0 := HOK
      have HDk0 : Hid (D.disk.length = D.disk.length) := rfl
      have hng : ¬ S g := fun h => by have := HD.out.lt _ h; omega
      have HNg := Lib.hid hng
      have hg0 : g < w4.heap.size := Nat.lt_of_lt_of_le hg2 hb4.size
      have HRow0 : Hid (StrsAt w4 g 0 (Fr.bs (Fr.topL J.next L) :: L.map (·.2))) := fun j hj => (hb4.cell (p := ⟨g, 0 + j, none⟩) hg2).trans (HRow.out j hj)
      have HSl0 : Hid (SlW w4 (.slice lao L.length lc) L) := HSl.out.below hB4
      have HOu0 := HOu
      have HNa0 := Lib.hid HLi.out.ne
      have HLt0 : Hid (∀ g off n c, (Value.slice lao L.length lc) = .slice (some ⟨g, off, none⟩) n c → g < w4.heap.size) := fun g off n c hv => Nat.lt_of_lt_of_le (HLi.out.lt g off n c hv) hB4.size
      have HS0 : Hid (∀ k, S k → S k ∨ w.heap.size ≤ k) := fun _ h => .inl h
      have HO0 : Hid (Only (fun k => S k ∨ k = a) w w4) := Only.of_below _ hB4 (Nat.le_refl _)
      clear hng hb4 hB4 CL HRow CP
      have hf0 : J.full + (L.map (·.2)).length + 1 ≤ J.log := by rw [List.length_map]; omega
      have CA := Lib.hid (add_any (ds := L.map (·.2)) (top := Fr.bs (Fr.topL J.next L)) g 0 c4 HJ0.out HD0.out HN0.out HOK0.out (by omega) (by rw [List.length_map]; omega) hf0 hg0 HRow0.out HNg.out)
      rw [List.length_map] at CA
      have HX : Hid ((J.addF D (Fr.bs (Fr.topL J.next L)) (L.map (·.2))).2.1.disk.length = D.disk.length ∧ (J.addF D (Fr.bs (Fr.topL J.next L)) (L.map (·.2))).2.1.pend.length ≤ 800000) := by
        refine ⟨JS.addF_disk.trans HDk0.out, ?_⟩
        have := JS.addF_len (J := J) (D := D) (top := Fr.bs (Fr.topL J.next L)) (ds := L.map (·.2))
        rw [List.length_map] at this
        omega
      generalize J.addF D (Fr.bs (Fr.topL J.next L)) (L.map (·.2)) = R2 at *
      obtain ⟨er2, D2, J2⟩ := R2
      simp only at CA HX HCm
      go_wp2_with fail
      refine CA.out.mono ?_
      rintro e w5 ⟨rfl, hv5⟩
      obtain ⟨S5, hS5, hs5, hj5, ho5⟩ := hv5
      by_cases he2 : er2 = 0
      · have he2' : (er2 != 0) = false := by simp [he2]
        rw [if_neg (by simpa using he2)] at HCm
        have hn5 : ¬ S5 a := fun h => by rcases hS5 a h with h | h; exact HN0.out h; have := HJ0.out.lt; omega
        have hsl5 : Fr.SlW w5 (.slice lao L.length lc) L := SlW.only HSl0.out ho5 (HOu0.out.or_ne HNa0.out)
        have hou5 : Outs S5 (.slice lao L.length lc) := HOu0.out.grown HLt0.out hS5
        have CW := Lib.hid (writeAll_any hj5 hs5 hn5 (by omega) (by have := HX.out.2; omega) hsl5 hou5)
        have HF : Hid (∀ w' , Leaves S5 w5 w' p (D2.wrs L).2 → JLeaves 85 S w w' a p (D2.wrs L).2 J2) := fun w' h => JLeaves.next HS0.out HO0.out (JLeaves.next hS5 ho5 (JLeaves.of h hj5 hn5))
        clear hS5 hs5 hj5 ho5 hn5 hsl5 hou5
        go_wp2_with fail
        refine CW.out.mono ?_
        rintro e w6 ⟨rfl, hv6⟩
        have HF2 := Lib.hid (HF.out _ hv6); clear hv6
        go_wp2
        go_ret
        exact ⟨by rw [HCm.out]; rfl, by rw [HCm.out]; exact HF2.out⟩
      · have he2' : (er2 != 0) = true := by simp [he2]
        rw [if_pos (by simpa using he2)] at HCm
        have HF : Hid (JLeaves 85 S w w5 a p D2 J2) := JLeaves.next HS0.out HO0.out ⟨S5, hS5, hs5, hj5, ho5⟩
        clear hS5 hs5 hj5 ho5
        go_wp2
        go_ret
        exact ⟨by rw [HCm.out]; rfl, by rw [HCm.out]; exact HF.out⟩
  · have HCm : Hid (J.commit D L = ((J.chk D.disk.length L : Int), D, J)) := by show _ = _; unfold JS.commit; rw [if_pos (by simpa using hc)]
    have hne : (((J.chk D.disk.length L : Nat) : Int) != 0) = true := by simp; omega
    have HF : Hid (∀ w', Below w.heap.size w w' → JLeaves 85 S w w' a p D J) := fun w' hb => (JLeaves.refl HD.out HJ.out).below hb
    generalize J.chk D.disk.length L = er at *
    clear hc hs
    go_enter Try.func30, Try.ntmps30
    go_wp2_with fail
    refine CC.out.mono ?_
    rintro e w1 ⟨rfl, hb1⟩
    have HF2 := Lib.hid (HF.out _ hb1); clear hb1 CC
    go_wp2
    go_ret
    exact ⟨by rw [HCm.out]; rfl, by rw [HCm.out]; exact HF2.out⟩
end
end Go.Proofs.Ytodfcbpimglhdaa
/- What redo answers and leaves behind: the log's frames, done at home, in order. -/
namespace Go.Proofs.Ytodfcbpimglhdaa
open Go.RowKit
open Fr (SlW SlS WritesAt StrsAt OwnS OwnW nmAt hd unp headB)

section
variable {S : Nat → Prop} {w w' : World} {a p : Nat} {J : JS} {D : DevS}

theorem unp_len (s : ByteArray) (l : List ByteArray) : (unp (s :: l)).2.1.length ≤ l.length := by
  rw [Fr.unp_cons]
  split
  · split
    · show ((Fr.blocksOf s.data.toList).zip (l.take (nmAt s.data.toList 12))).length ≤ _
      rw [List.length_zip, List.length_take]; omega
    · exact Nat.zero_le _
  · exact Nat.zero_le _
theorem frameOf_some {ws : List (Int × ByteArray)} (h : J.frameOf D = some ws) : 1 ≤ ws.length ∧ ws.length ≤ 48 ∧ ws.length + 1 ≤ J.left ∧ J.chk D.disk.length ws = 0 := by
  unfold JS.frameOf at h
  split at h
  · rename_i h1
    cases h
    have h2 := (J.chk_ok _ _).1 h1.2.2.2.2
    have h3 := unp_len (D.rdB (J.pos 0)) ((List.range (nmAt (D.rdB (J.pos 0)).data.toList 12)).map fun i => D.rdB (J.pos (i + 1)))
    rw [List.length_map, List.length_range] at h3
    have h4 : (unp (J.frameAt D)).2.1.length ≤ nmAt (D.rdB (J.pos 0)).data.toList 12 := h3
    exact ⟨h2.1, h2.2.1, by omega, h1.2.2.2.2⟩
  · cases h
theorem redoN_none (m : Nat) (h : J.frameOf D = none) : J.redoN D (m + 1) = (0, D, J) := by
  show (match J.frameOf D with | none => _ | some ws => _) = _
  rw [h]
theorem redoN_some (m : Nat) {ws : List (Int × ByteArray)} (h : J.frameOf D = some ws) : J.redoN D (m + 1) = if (D.wrs ws).1 ≠ 0 then ((D.wrs ws).1, (D.wrs ws).2, J.grow (ws.length + 1)) else (J.grow (ws.length + 1)).redoN (D.wrs ws).2 m := by
  show (match J.frameOf D with | none => _ | some ws => _) = _
  rw [h]

/-- Where the loop of redo stands, with m rounds to go at most. -/
def RedoI (t : TypeId) (S : Nat → Prop) (w : World) (a p : Nat) (J : JS) (D : DevS) (m : Nat) (wr : World) : Prop :=
  ∃ (Jk : JS) (Dk : DevS), Jk.redoN Dk m = J.redo D ∧ Jk.left < m ∧ Jk.Ok D.disk.length ∧ Dk.dead = false ∧ Dk.disk.length = D.disk.length ∧ Dk.pend.length + Jk.left ≤ D.pend.length + J.log ∧ JLeaves t S w wr a p Dk Jk

set_option maxRecDepth 100000 in
set_option maxHeartbeats 2000000 in
theorem redo_any (hj : Jr 85 w a p J) (hd : Stands S w p D) (ha : ¬ S a) (ok : J.Ok D.disk.length) (hde : D.dead = false) (hp : D.pend.length ≤ 700000) :
    Calls Try.prog 48 #[.pointer (some ⟨a, 0, none⟩)] w fun e w' => e = .returned (.int .i64 (J.redo D).1) ∧ JLeaves 85 S w w' a p (J.redo D).2.1 (J.redo D).2.2 := by
  have hnd := hd.ok.few
  have hll := ok.l1
  have HA := Lib.hid ha; clear ha
  have HI : Hid (RedoI 85 S w a p J D (J.log + 1) w) :=
    ⟨J, D, rfl, by unfold JS.left; omega, ok, hde, rfl, by unfold JS.left; omega, JLeaves.refl hd hj⟩
  have hJl := hj.lt
  clear hj hd ok hde
  go_enter Try.func48, Try.ntmps48
  go_wp2_with fail
  go_loopg [4] (J.log + 1) (fun m u wr => Hid (RedoI 85 S w a p J D m wr))
  case atStart => exact HI
  case round =>
    clear HI
    obtain ⟨Jk, Dk, he, hm, hok, hde, hdk, hpk, hlv⟩ := hrel.out
    clear hrel
    obtain ⟨m, rfl⟩ : ∃ m, gk = m + 1 := ⟨gk - 1, by omega⟩
    obtain ⟨S1, hS1, hs1, hj1, ho1⟩ := hlv
    have hal : a < w.heap.size := hJl
    have hna : ¬ S1 a := fun h => by rcases hS1 a h with h | h; exact HA.out h; omega
    have hok1 : Jk.Ok Dk.disk.length := by rw [hdk]; exact hok
    have CX := Lib.hid (next_any hj1 hs1 hok1 hde (by omega))
    have hleft : Jk.left ≤ 4096 := by have := hok.l1; unfold JS.left; omega
    cases hfr : Jk.frameOf Dk with
    | none =>
      have HR : Hid (J.redo D = (0, Dk, Jk)) := by show _ = _; rw [← he]; exact redoN_none m hfr
      have HF : Hid (∀ w2, Below wr.heap.size wr w2 → JLeaves 85 S w w2 a p Dk Jk) := fun w2 hb => JLeaves.below ⟨S1, hS1, hs1, hj1, ho1⟩ hb
      rw [hfr] at CX
      clear he hm hok hde hdk hpk hS1 hs1 hj1 ho1 hna hok1 hfr hleft
      go_wp2_with fail
      refine CX.out.mono ?_
      rintro e w2 ⟨u, rfl, hu, hb⟩
      have HF2 := Lib.hid (HF.out _ hb); clear hb
      have hsh := own_shape hu
      clear hu
      obtain ⟨ao, c, rfl⟩ := hsh
      simp only [Option.getD_none, List.length_nil]
      go_wp2
      go_ret
      exact ⟨by rw [HR.out]; rfl, by rw [HR.out]; exact HF2.out⟩
    | some ws =>
      obtain ⟨f1, f2, f3, f4⟩ := frameOf_some hfr
      have hE := redoN_some m hfr
      rw [he] at hE
      rw [hfr] at CX
      have hok2 : (Jk.grow (ws.length + 1)).Ok D.disk.length := hok.grow _ (by unfold JS.left at f3; have := hok.fu; omega)
      have hl2 : (Jk.grow (ws.length + 1)).left = Jk.left - (ws.length + 1) := by unfold JS.left JS.grow; simp only; omega
      have hwl := Dk.wrs_len ws
      have hwd := Dk.wrs_disk ws
      have hwlive := Dk.wrs_live ws hde
      have HE := Lib.hid hE
      have HS1 := Lib.hid hS1; have HO1 := Lib.hid ho1; have HSt1 := Lib.hid hs1; have HJ1 := Lib.hid hj1; have HNA := Lib.hid hna
      have HOK := Lib.hid hok1; have HOK2 := Lib.hid hok2
      have HWd := Lib.hid hwd; have HWl := Lib.hid hwlive
      have HDk := Lib.hid hdk
      clear hE he hS1 ho1 hs1 hj1 hna hok1 hok2 hok hde hfr hdk hwd hwlive f4
      simp only [Option.getD_some] at CX
      go_wp2_with fail
      refine CX.out.mono ?_
      rintro e w2 ⟨u, rfl, hu, hb⟩
      have HB2 := Lib.hid hb; have HU2 := Lib.hid hu
      clear hb hu CX
      have hsh := own_shape HU2.out
      obtain ⟨ao, c, hv⟩ := hsh
      subst hv
      have f1' : (((ws.length : Nat) : Int) == 0) = false := beq_eq_false_iff_ne.2 (by omega)
      have hj2 := HJ1.out.below HB2.out
      have CG := Lib.hid (grow_any (ws.length + 1) hj2 HOK.out (by rw [HDk.out]; exact hnd) (by omega))
      have hcast : ((ws.length + 1 : Nat) : Int) = (ws.length : Int) + 1 := by omega
      rw [hcast] at CG
      clear hcast
      have hs2 := HSt1.out.below HB2.out
      have HJ2 := Lib.hid hj2; have HSt2 := Lib.hid hs2
      clear hj2 hs2
      go_wp2_with fail
      refine CG.out.mono ?_
      rintro e w3 ⟨rfl, hj3, ho3, _⟩
      have hs3 : Stands S1 w3 p Dk := HSt2.out.kept ho3 (fun k hk hka => HNA.out (hka ▸ hk))
      have hou : ∀ g off n' c', Value.slice ao ws.length c = .slice (some ⟨g, off, none⟩) n' c' → wr.heap.size ≤ g := fun g off n' c' hv => (HU2.out.lt g (by rw [hv]; rfl)).1
      have hsl3 : SlW w3 (.slice ao ws.length c) ws := SlW.only HU2.out.sl ho3 (fun g off n' c' hv hg => by have := hou g off n' c' hv; have := HJ1.out.lt; omega)
      have hout : Outs S1 (.slice ao ws.length c) := fun g off n' c' hv hg => by have := hou g off n' c' hv; have := HSt1.out.lt _ hg; omega
      have CW := Lib.hid (writeAll_any hj3 hs3 HNA.out (by omega) (by omega) hsl3 hout)
      have HF : Hid (∀ w4, Leaves S1 w3 w4 p (Dk.wrs ws).2 → JLeaves 85 S w w4 a p (Dk.wrs ws).2 (Jk.grow (ws.length + 1))) := fun w4 h => by
        refine JLeaves.next HS1.out HO1.out (JLeaves.from HB2.out (JLeaves.next (fun _ h => .inl h) (ho3.mono (fun _ _ h => .inr h)) (JLeaves.of h hj3 HNA.out)))
      clear hj3 hs3 ho3 hou hsl3 hout CG
      generalize Dk.wrs ws = R at *
      obtain ⟨er, DR⟩ := R
      simp only at HE CW HF HWd HWl hwl
      by_cases her : er = 0
      · have her' : (er != 0) = false := by simp [her]
        rw [if_neg (by simpa using her)] at HE
        go_wp2_with fail
        refine CW.out.mono ?_
        rintro e w4 ⟨rfl, hv4⟩
        have HF4 := Lib.hid (HF.out _ hv4); clear hv4
        go_wp2
        go_roundg m
        case measure => exact Nat.lt_succ_self m
        case rel =>
          refine ⟨_, _, HE.out.symm, ?_, HOK2.out, HWl.out her, ?_, ?_, HF4.out⟩
          · rw [hl2]; omega
          · rw [HWd.out]; exact HDk.out
          · rw [hl2]; omega
      · have her' : (er != 0) = true := by simp [her]
        rw [if_pos (by simpa using her)] at HE
        go_wp2_with fail
        refine CW.out.mono ?_
        rintro e w4 ⟨rfl, hv4⟩
        have HF4 := Lib.hid (HF.out _ hv4); clear hv4
        go_wp2
        go_ret
        exact ⟨by rw [HE.out]; rfl, by rw [HE.out]; exact HF4.out⟩
end
end Go.Proofs.Ytodfcbpimglhdaa

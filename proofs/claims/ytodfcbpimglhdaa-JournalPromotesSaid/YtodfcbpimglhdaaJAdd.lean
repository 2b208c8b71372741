/- What add answers and leaves behind: a frame is laid behind those that are there. -/
import Derived.Test.YtodfcbpimglhdaaJCkp
import Derived.Test.YtodfcbpimglhdaaFUnp
import Derived.Test.YtodfcbpimglhdaaFMid
namespace Go.Proofs.Ytodfcbpimglhdaa
open Go.RowKit
open Fr (SlW SlS WritesAt StrsAt OwnW flatI two_cells two_one own_pushW step_append_own)

section
variable {S S1 T : Nat → Prop} {w w1 w2 w' : World} {a p : Nat} {J J1 J2 : JS} {D D1 D2 : DevS} {v : Value} {top : ByteArray} {ds : List ByteArray}

/-- The writes of the first k blocks of a frame's data. -/
def JS.dataK (J : JS) (ds : List ByteArray) (k : Nat) : List (Int × ByteArray) := (List.range k).map fun i => (((J.pos (i + 1) : Nat) : Int), ds.getD i ByteArray.empty)
theorem dataK_succ (J : JS) (ds : List ByteArray) (k : Nat) : J.dataK ds (k + 1) = J.dataK ds k ++ [(((J.pos (k + 1) : Nat) : Int), ds.getD k ByteArray.empty)] := by
  unfold JS.dataK; rw [List.range_succ, List.map_append]; rfl
theorem dataK_len (J : JS) (ds : List ByteArray) (k : Nat) : (J.dataK ds k).length = k := by simp [JS.dataK]
theorem dataW_eq (J : JS) (ds : List ByteArray) : J.dataW ds = J.dataK ds ds.length ++ [(((J.pos (ds.length + 1) : Nat) : Int), noughts)] := rfl

set_option maxRecDepth 100000 in
set_option maxHeartbeats 2000000 in
theorem add_any (b off c : Nat) (hj : Jr 85 w a p J) (hd : Stands S w p D) (ha : ¬ S a) (ok : J.Ok D.disk.length) (hp : D.pend.length ≤ 800000) (hl : ds.length ≤ 48) (hf : J.full + ds.length + 1 ≤ J.log)
    (hb : b < w.heap.size) (hc : StrsAt w b off (top :: ds)) (hsb : ¬ S b) :
    Calls Try.prog 63 #[.pointer (some ⟨a, 0, none⟩), .slice (some ⟨b, off, none⟩) (ds.length + 1) c] w fun e w' => e = .returned (.int .i64 (J.addF D top ds).1) ∧ JLeaves 85 S w w' a p (J.addF D top ds).2.1 (J.addF D top ds).2.2 := by
  obtain ⟨i0, hi, hz0, hz1, hz2⟩ := info_parts Try.infoW
  have HZ2 := Lib.hid hz2; clear hz2
  have hnd := hd.ok.few
  have hll := ok.l1
  have hc0 : w.cell? ⟨b, off, none⟩ = some (.string top) := hc 0 (by simp)
  have HC : Hid (∀ k (h : k < ds.length), w.cell? ⟨b, off + (k + 1), none⟩ = some (.string (ds.getD k ByteArray.empty))) := by
    intro k hk
    have := hc (k + 1) (by simpa using hk)
    rw [this]; simp [hk]
  clear hc
  have HJ := Lib.hid hj; clear hj
  have HD := Lib.hid hd; clear hd
  have HA := Lib.hid ha; clear ha
  have HOK := Lib.hid ok; clear ok
  have HSB := Lib.hid hsb; clear hsb
  have CB : Hid (∀ W i, J.full + i ≤ J.log → Below w.heap.size w W → Calls Try.prog 67 #[.pointer (some ⟨a, 0, none⟩), .int .i64 ((i : Nat) : Int)] W fun e w' => e = .returned (.int .i64 (J.pos i)) ∧ w' = W.drew) :=
    fun W i h hW => behind_drew i (HJ.out.below hW) HOK.out hnd h
  obtain ⟨n, hn⟩ : ∃ n, ds.length = n := ⟨_, rfl⟩
  rw [hn] at hl hf HC ⊢
  have HN := Lib.hid hn; clear hn
  go_enter Try.func63, Try.ntmps63
  go_wp2_with fail
  go_loopw [5, 6] (fun wv i wr => ∃ k : Nat, k ≤ n ∧ i = .int .i64 ((k + 1 : Nat) : Int) ∧ Hid (OwnW w.heap.size wr wv (J.dataK ds k)) ∧ Hid (Below w.heap.size w wr)) (fun _ i _ => n + 1 - (intOf i).toNat)
  case atStart => exact ⟨0, Nat.zero_le _, rfl, OwnW.nil _ _, Below.refl _ _⟩
  case round =>
    obtain ⟨k, hk, rfl, HO, HB⟩ := hrel
    have hbr := HB.out.size
    by_cases hlt : k < n
    · have c1r := (HB.out.cell (p := ⟨b, off + (k + 1), none⟩) hb).trans (HC.out k hlt)
      have hlen : (J.dataK ds k).length ≤ 48 := by rw [dataK_len]; omega
      have HSN := Lib.hid (dataK_succ J ds k)
      have CB1 : Hid (∀ W, Below w.heap.size w W → Calls Try.prog 67 #[.pointer (some ⟨a, 0, none⟩), .int .i64 ((k + 1 : Nat) : Int)] W fun e w' => e = .returned (.int .i64 (J.pos (k + 1))) ∧ w' = W.drew) := fun W hW => CB.out W (k + 1) (by omega) hW
      obtain ⟨M, hM⟩ : ∃ M, J.dataK ds k = M := ⟨_, rfl⟩
      rw [hM] at HO HSN hlen
      clear hM
      generalize ds.getD k ByteArray.empty = pt at *
      generalize J.pos (k + 1) = pi at *
      obtain ⟨ao2, c2, hv, _⟩ := HO.out.sl
      subst hv
      have i1 : (k : Int) + 1 < (n : Int) + 1 := by omega
      have i0' : (0 : Int) ≤ (k : Int) + 1 := by omega
      go_wp2_with fail
      go_region_law (first
        | (refine step_append_own rfl (.tmp 15) (.tmp 24) 42 rfl w.heap.size 71 i0 (.agg #[.int .i64 0, .string ⟨#[]⟩]) 2 24 Try.underlying42 hi hz0 hz1 HZ2.out rfl (by omega) (.slice ao2 M.length c2) M.length (flatI M) (by kernel_rfl) ?own ⟨wr.heap.size, 0, none⟩ 1 1 [.int .i64 (pi : Int), .string pt] (by kernel_rfl) rfl (two_cells rfl) two_one (by unfold maxLen; omega) (by omega) ?base ?_
           case own => exact World.ownsRow.alloc (w := wr) HO.out _
           case base => simp; omega
           intro v1 w3 hown hgrow
           have HO3 := Lib.hid (own_pushW hown)
           have HB3 : Hid (Below w.heap.size w w3) := (((HB.out.drew).drew).alloc hbr _).grown hgrow (by simp; omega) (fun q hq => (HO.out.lt q hq).1)
           clear hown hgrow)
        | (go_simp; go_at_call 67; refine (CB1.out _ ?_).mono ?_; exact HB.out.drew; rintro e w1 ⟨rfl, rfl⟩))
      all_goals
        go_wp2
        go_roundw
        case rel => exact ⟨k + 1, by omega, by go_num, by show OwnW _ _ _ _; rw [HSN.out]; exact HO3.out, HB3⟩
        case measure => simp [intOf]; omega
    · have hkn : k = n := by omega
      subst hkn
      have i1 : ¬ (k : Int) + 1 < (k : Int) + 1 := by omega
      have CB1 : Hid (∀ W, Below w.heap.size w W → Calls Try.prog 67 #[.pointer (some ⟨a, 0, none⟩), .int .i64 ((k : Int) + 1)] W fun e w' => e = .returned (.int .i64 (J.pos (k + 1))) ∧ w' = W.drew) := fun W hW => CB.out W (k + 1) (by omega) hW
      have CB0 : Hid (∀ W, Below w.heap.size w W → Calls Try.prog 67 #[.pointer (some ⟨a, 0, none⟩), .int .i64 0] W fun e w' => e = .returned (.int .i64 (J.pos 0)) ∧ w' = W.drew) := fun W hW => CB.out W 0 (by omega) hW
      have hlen : (J.dataK ds k).length ≤ 48 := by rw [dataK_len]; omega
      have HDW : Hid (J.dataW ds = J.dataK ds k ++ [(((J.pos (k + 1) : Nat) : Int), noughts)]) := by show _ = _; rw [dataW_eq, HN.out]
      obtain ⟨ao2, c2, hv, _⟩ := HO.out.sl
      subst hv
      obtain ⟨M, hM⟩ : ∃ M, J.dataK ds k = M := ⟨_, rfl⟩
      rw [hM] at HO HDW hlen ⊢
      clear hM
      obtain ⟨pn, hpn⟩ : ∃ x, J.pos (k + 1) = x := ⟨_, rfl⟩
      rw [hpn] at HDW CB1
      clear hpn
      obtain ⟨NN, hNN⟩ : ∃ x, noughts = x := ⟨_, rfl⟩
      have CN : Hid (∀ W, Calls Try.prog 55 #[.int .i64 256] W fun e w' => e = .returned (.string NN) ∧ Below W.heap.size W w') := fun W => by rw [← hNN]; exact jnoughts_all W
      rw [hNN] at HDW
      clear hNN
      go_wp2_with fail
      refine (CB1.out _ HB.out).mono ?_
      rintro e w1 ⟨rfl, rfl⟩
      go_wp2_with fail
      refine (CN.out _).mono ?_
      rintro e w2 ⟨rfl, hb2⟩
      have HB2 : Hid (Below wr.heap.size wr w2) := Fr.below_predrew hb2
      clear hb2
      have hbr2 := HB2.out.size
      go_wp2_with (at_builtin; go_loud (refine wpList_append_own _ rfl _ _ 42 rfl w.heap.size 71 i0 _ 2 24 Try.underlying42 hi hz0 hz1 HZ2.out rfl (by decide) _ _ _ rfl ((HO.out.below HB2.out).alloc _) _ 1 1 [.int .i64 (pn : Int), .string NN] rfl rfl (two_cells rfl) two_one ?c3 ?c4 ?c5 ?_))
      case c3 => unfold maxLen; omega
      case c4 => omega
      case c5 => simp; omega
      intro v1 w3 hown hgrow _
      have hO3 := own_pushW hown
      have HB3 : Hid (Below w.heap.size w w3) := ((HB.out.trans (HB2.out.mono hbr)).alloc (by omega) _).grown hgrow (by simp; omega) (fun q hq => (HO.out.lt q hq).1)
      rw [← HDW.out] at hO3
      have HO3 := Lib.hid hO3
      clear hown hgrow hO3 HO HB2 HB CB1 CN
      have hSO : Outs S v1 := by
        intro g off' n' c' hv hg
        have h1 := (HO3.out.lt g (by rw [hv]; rfl)).1
        have h2 := HD.out.lt g hg
        omega
      have CS := Lib.hid (jsettle_any (L := J.dataW ds) (HJ.out.below HB3.out) (HD.out.below HB3.out) HA.out (by rw [HDW.out]; simp; omega) (by omega) HO3.out.sl hSO)
      have HLd : Hid ((D.stl (J.dataW ds)).2.pend.length ≤ 850000 ∧ (D.stl (J.dataW ds)).2.disk.length = D.disk.length) := by
        have := D.stl_len (J.dataW ds)
        refine ⟨?_, D.stl_disk _⟩
        rw [HDW.out, List.length_append, List.length_singleton] at this
        rw [HDW.out]; omega
      have HAd : Hid (J.addF D top ds = if (D.stl (J.dataW ds)).1 ≠ 0 then ((D.stl (J.dataW ds)).1, (D.stl (J.dataW ds)).2, J) else
          if ((D.stl (J.dataW ds)).2.stl [(((J.pos 0 : Nat) : Int), top)]).1 ≠ 0 then (((D.stl (J.dataW ds)).2.stl [(((J.pos 0 : Nat) : Int), top)]).1, ((D.stl (J.dataW ds)).2.stl [(((J.pos 0 : Nat) : Int), top)]).2, J) else
          (0, ((D.stl (J.dataW ds)).2.stl [(((J.pos 0 : Nat) : Int), top)]).2, J.grow (k + 1))) := by
        show J.addF D top ds = _
        unfold JS.addF
        rw [HN.out]
      generalize D.stl (J.dataW ds) = R1 at *
      obtain ⟨er1, D1⟩ := R1
      simp only at CS HLd HAd
      obtain ⟨ao3, c3, hv3, _⟩ := HO3.out.sl
      subst hv3
      clear HDW HO3 hSO
      go_wp2_with fail
      refine CS.out.mono ?_
      rintro e w4 ⟨rfl, hv4⟩
      have HV4 := Lib.hid (Leaves.from HB3.out hv4); clear hv4 CS
      by_cases he1 : er1 = 0
      · have he1' : (er1 != 0) = false := by simp [he1]
        rw [if_neg (by simpa using he1)] at HAd
        obtain ⟨S4, hS4, hs4, ho4⟩ := HV4.out
        have hna : ¬ S4 a := fun h => by rcases hS4 a h with h | h; exact HA.out h; have := HJ.out.lt; omega
        have hj4 := HJ.out.only ho4 HA.out
        have hok4 : J.Ok D1.disk.length := by rw [HLd.out.2]; exact HOK.out
        have hc4 : w4.cell? ⟨b, off, none⟩ = some (.string top) := (ho4.cell (p := ⟨b, off, none⟩) hb HSB.out).trans hc0
        have CB4 : Hid (∀ W, Below w4.heap.size w4 W → Calls Try.prog 67 #[.pointer (some ⟨a, 0, none⟩), .int .i64 0] W fun e w' => e = .returned (.int .i64 (J.pos 0)) ∧ w' = W.drew) := fun W hW =>
          behind_drew 0 (hj4.below hW) hok4 (by rw [HLd.out.2]; exact hnd) (by omega)
        obtain ⟨R2, hR2⟩ : ∃ R, D1.stl [(((J.pos 0 : Nat) : Int), top)] = R := ⟨_, rfl⟩
        rw [hR2] at HAd
        have CS4 : Hid (∀ W, Below w4.heap.size w4 W → Calls Try.prog 56 #[.pointer (some ⟨a, 0, none⟩), .slice (some ⟨W.heap.size, 0, none⟩) 1 1] (W.alloc (.cells #[.int .i64 ((J.pos 0 : Nat) : Int), .string top] 71)) fun e w' => e = .returned (.int .i64 R2.1) ∧ Leaves S4 w4 w' p R2.2) := by
          intro W hW
          rw [← hR2]
          exact (settle_one _ top (hj4.below hW) (hs4.below hW) hna (by have := HLd.out.1; omega)).mono fun e w' ⟨he, hl⟩ => ⟨he, Leaves.from hW hl⟩
        have HJ4 := Lib.hid hj4; have HS4 := Lib.hid hS4; have HSt4 := Lib.hid hs4; have HO4 := Lib.hid ho4; have HN4 := Lib.hid hna
        have HOK4 := Lib.hid hok4
        clear hj4 hS4 hs4 ho4 hna hok4
        have HD2 : Hid (R2.2.disk.length = D.disk.length) := by rw [← hR2]; show _ = _; rw [D1.stl_disk]; exact HLd.out.2
        clear hR2 hc0 CB CB0
        obtain ⟨p0, hp0⟩ : ∃ x, J.pos 0 = x := ⟨_, rfl⟩
        rw [hp0] at CB4 CS4
        clear hp0
        obtain ⟨er2, D2⟩ := R2
        simp only at HAd CS4 HD2
        have i2 : (0 : Int) < (k : Int) + 1 := by omega
        have hb4 : b < w4.heap.size := Nat.lt_of_lt_of_le hb HO4.out.size
        have HKB : Hid (∀ w' D', Leaves S4 w4 w' p D' → w'.cell? ⟨b, off, none⟩ = some (.string top)) := fun w' D' h => (h.only.cell (p := ⟨b, off, none⟩) hb4 (fun hs => by rcases HS4.out b hs with h | h; exact HSB.out h; omega)).trans hc4
        go_wp2_with fail
        go_region_held3 (fun W => W.cell? ⟨b, off, none⟩ = some (.string top))
          (first | exact hc4 | exact HKB.out _ _ (by assumption) | go_keep)
          (first | (go_at_call 67; refine (CB4.out _ ?_).mono ?_; exact (Below.refl _ _).drew; rintro e w' ⟨rfl, rfl⟩)
                 | (go_at_call 56; refine (CS4.out w4.drew.drew ?_).mono ?_; exact ((Below.refl _ _).drew).drew; rintro r w6 ⟨rfl, hv6⟩))
        have hj6 := HJ4.out.only hv6.only HN4.out
        by_cases he2 : er2 = 0
        · have he2' : (er2 != 0) = false := by simp [he2]
          rw [if_neg (by simpa using he2)] at HAd
          have CG := Lib.hid (grow_any (k + 1) hj6 (n := D2.disk.length) (by rw [HD2.out]; exact HOK.out) (by rw [HD2.out]; exact hnd) (by omega))
          obtain ⟨S6, hS6, hs6, ho6⟩ := hv6
          have hna6 : ¬ S6 a := fun h => by rcases hS6 a h with h | h; exact HN4.out h; have := HJ4.out.lt; omega
          have HS6 := Lib.hid hS6; have HSt6 := Lib.hid hs6; have HO6 := Lib.hid ho6; have HN6 := Lib.hid hna6
          clear hS6 hs6 ho6 hna6 hj6
          go_wp2_with fail
          refine CG.out.mono ?_
          rintro e w7 ⟨rfl, hj7, ho7, hz7⟩
          have HJ7 := Lib.hid hj7; have HO7 := Lib.hid ho7
          clear hj7 ho7 hz7 CG
          go_wp2
          go_ret
          refine ⟨by rw [HAd.out]; rfl, ?_⟩
          rw [HAd.out]
          exact JLeaves.next HS4.out (HO4.out.mono (fun _ _ h => .inl h)) ⟨S6, HS6.out, HSt6.out.kept HO7.out (fun k hk hka => HN6.out (hka ▸ hk)), HJ7.out, (HO6.out.mono (T := fun k => S4 k ∨ k = a) (fun _ _ h => .inl h)).trans HO7.out (fun _ _ h => .inr h)⟩
        · have he2' : (er2 != 0) = true := by simp [he2]
          rw [if_pos (by simpa using he2)] at HAd
          have HF : Hid (JLeaves 85 S w w6 a p D2 J) := JLeaves.next HS4.out (HO4.out.mono (fun _ _ h => .inl h)) (JLeaves.of hv6 HJ4.out HN4.out)
          clear hj6 hv6
          go_wp2
          go_ret
          exact ⟨by rw [HAd.out]; rfl, by rw [HAd.out]; exact HF.out⟩
      · have he1' : (er1 != 0) = true := by simp [he1]
        rw [if_pos (by simpa using he1)] at HAd
        have HF : Hid (JLeaves 85 S w w4 a p D1 J) := JLeaves.of HV4.out HJ.out HA.out
        go_wp2
        go_ret
        exact ⟨by rw [HAd.out]; rfl, by rw [HAd.out]; exact HF.out⟩
end
end Go.Proofs.Ytodfcbpimglhdaa

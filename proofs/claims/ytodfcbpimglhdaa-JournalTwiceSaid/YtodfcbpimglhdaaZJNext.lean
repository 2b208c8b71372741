/- What nextFrame answers: the writes of the frame behind those that are there, or nothing. -/
import Derived.Test.YtodfcbpimglhdaaZLOpenA
import Derived.Test.YtodfcbpimglhdaaZJCkp
import Derived.Test.YtodfcbpimglhdaaZLHelp
import Derived.Test.YtodfcbpimglhdaaZFBase
import Derived.Deep.LoopGhost
import Derived.Test.YtodfcbpimglhdaaZJSlot
import Derived.BigRegion
import Derived.Lib.MinMax
import Derived.BigQuiet
import Derived.Deep.QuietTactic

namespace Go.Proofs.Ytodfcbpimglhdaa
open Go.RowKit
open Fr (SlW SlS WritesAt StrsAt OwnS OwnW nmAt hd unp headB own_push one_cell one_one)

section
variable {S : Nat → Prop} {w w' : World} {a p : Nat} {J : JS} {D : DevS}

theorem DevS.Ok.rdB_size (ok : D.Ok) (j : Nat) (hj : j < D.disk.length) : (D.rdB j).size = 256 := by
  unfold DevS.rdB
  split
  · rename_i x hx
    have := List.mem_of_find?_eq_some hx
    exact (ok.pends x (List.mem_reverse.1 this)).2
  · rw [getD_lt _ _ hj]; exact ok.whole _ (List.getElem_mem hj)
theorem DevS.rd_live (hde : D.dead = false) (j : Nat) (hj : j < D.disk.length) : D.rd (j : Int) = (D.rdB j, 0) := by
  have : D.ck (j : Int) = 0 := by
    unfold DevS.ck; rw [hde]; simp; omega
  unfold DevS.rd; rw [this]; simp
/-- The first k blocks of a frame's data, as they are read. -/
def JS.readK (J : JS) (D : DevS) (k : Nat) : List ByteArray := D.rdB (J.pos 0) :: (List.range k).map fun i => D.rdB (J.pos (i + 1))
theorem readK_succ (J : JS) (D : DevS) (k : Nat) : J.readK D (k + 1) = J.readK D k ++ [D.rdB (J.pos (k + 1))] := by
  unfold JS.readK; rw [List.range_succ, List.map_append]; rfl
theorem readK_len (J : JS) (D : DevS) (k : Nat) : (J.readK D k).length = k + 1 := by simp [JS.readK]

theorem unp_seq (l : List ByteArray) : (unp l).1 < 18446744073709551616 := by
  cases l with
  | nil => show 0 < _; omega
  | cons s D =>
    rw [Fr.unp_cons]
    split
    · split
      · show Fr.seqOf _ < _
        have h1 := Fr.nmAt_lt s.data.toList 4; have h2 := Fr.nmAt_lt s.data.toList 8
        unfold Fr.seqOf; omega
      · show 0 < _; omega
    · show 0 < _; omega
theorem unp_some (l : List ByteArray) (h : ∀ d ∈ l, d.size = 256) : (unp l).2.1.length ≤ l.length ∧ ∀ x ∈ (unp l).2.1, x.2.size = 256 := by
  cases l with
  | nil => exact ⟨Nat.le_refl _, fun x hx => by cases hx⟩
  | cons s D =>
    rw [Fr.unp_cons]
    split
    · split
      · refine ⟨?_, fun x hx => ?_⟩
        · show ((Fr.blocksOf s.data.toList).zip (D.take (nmAt s.data.toList 12))).length ≤ _
          rw [List.length_zip, List.length_take, List.length_cons]; omega
        · have hx' : x ∈ (Fr.blocksOf s.data.toList).zip (D.take (nmAt s.data.toList 12)) := hx
          have := (List.of_mem_zip hx').2
          exact h _ (List.mem_cons_of_mem _ (List.mem_of_mem_take this))
      · exact ⟨Nat.zero_le _, fun x hx => by cases hx⟩
    · exact ⟨Nat.zero_le _, fun x hx => by cases hx⟩

set_option maxRecDepth 100000 in
set_option maxHeartbeats 2000000 in
theorem next_any (hj : Jr 85 w a p J) (hd : Stands S w p D) (ok : J.Ok D.disk.length) (hde : D.dead = false) (hp : D.pend.length ≤ 1000000) :
    Calls Try.prog 76 #[.pointer (some ⟨a, 0, none⟩)] w fun e w' => ∃ u, e = .returned (.tuple #[u, .int .i64 0]) ∧ OwnW w.heap.size w' u ((J.frameOf D).getD []) ∧ Below w.heap.size w w' := by
  obtain ⟨i0, hi, hz0, hz1, hz2⟩ := info_parts Try.infoS
  have HZ2 := Lib.hid hz2; clear hz2
  have hnd := hd.ok.few
  have hll := ok.l1
  have hfu := ok.fu
  have CB : Hid (∀ W i, J.full + i ≤ J.log → Below w.heap.size w W → Calls Try.prog 67 #[.pointer (some ⟨a, 0, none⟩), .int .i64 ((i : Nat) : Int)] W fun e w' => e = .returned (.int .i64 (J.pos i)) ∧ w' = W.drew) :=
    fun W i h hW => behind_drew i (hj.below hW) ok hnd h
  have CR : Hid (∀ W i, Below w.heap.size w W → Calls Try.prog 37 #[.pointer (some ⟨p, 0, none⟩), .int .i64 ((J.pos i : Nat) : Int)] W fun e w' => e = .returned (.tuple #[.string (D.rdB (J.pos i)), .int .i64 0]) ∧ Below W.heap.size W w') := fun W i hW => by
    have := read_any (J.pos i : Int) hp (hd.below hW)
    rw [DevS.rd_live hde _ (by have := ok.pos_lt i; omega)] at this
    exact this
  have CL : Hid (∀ W, Below w.heap.size w W → Calls Try.prog 62 #[.pointer (some ⟨a, 0, none⟩)] W fun e w' => e = .returned (.int .i64 J.left) ∧ w' = W.drew) := fun W hW => left_drew (hj.below hW) ok hnd
  have HSZ : Hid (∀ i, (D.rdB (J.pos i)).size = 256) := fun i => hd.ok.rdB_size _ (by have := ok.pos_lt i; omega)
  have CK : Hid (∀ W v L, Below w.heap.size w W → L.length ≤ 1000 → (∀ x ∈ L, x.2.size ≤ maxLen) → SlW W v L → Calls Try.prog 60 #[.pointer (some ⟨a, 0, none⟩), v] W fun e w' => e = .returned (.int .i64 ((J.chk D.disk.length L : Nat) : Int)) ∧ Below W.heap.size W w') :=
    fun W v L hW h1 h2 h3 => jcheck_any (hj.below hW) (hd.below hW) ok h1 h2 h3
  have ca := hj.c0
  have c6 := hj.c6
  have hal := hj.lt
  have CB0 : Hid (∀ W, Below w.heap.size w W → Calls Try.prog 67 #[.pointer (some ⟨a, 0, none⟩), .int .i64 0] W fun e w' => e = .returned (.int .i64 (J.pos 0)) ∧ w' = W.drew) := fun W hW => CB.out W 0 (by omega) hW
  have CR0 : Hid (∀ W, Below w.heap.size w W → Calls Try.prog 37 #[.pointer (some ⟨p, 0, none⟩), .int .i64 ((J.pos 0 : Nat) : Int)] W fun e w' => e = .returned (.tuple #[.string (D.rdB (J.pos 0)), .int .i64 0]) ∧ Below W.heap.size W w') := fun W hW => CR.out W 0 hW
  have HKp : Hid (∀ W, Below w.heap.size w W → W.cell? ⟨a, 0, none⟩ = some (.pointer (some ⟨p, 0, none⟩))) := fun W hW => (hW.cell (p := ⟨a, 0, none⟩) hal).trans ca
  have HK6 : Hid (∀ W, Below w.heap.size w W → W.cell? ⟨a, 6, none⟩ = some (.int .u64 (J.next : Int))) := fun W hW => (hW.cell (p := ⟨a, 6, none⟩) hal).trans c6
  clear hj hd c6
  have HOK := Lib.hid ok; clear ok
  have HFr : Hid (J.frameOf D = if headB (D.rdB (J.pos 0)).data.toList = true ∧ nmAt (D.rdB (J.pos 0)).data.toList 12 + 1 ≤ J.left ∧ (unp (J.readK D (nmAt (D.rdB (J.pos 0)).data.toList 12))).2.2 = 0 ∧ (unp (J.readK D (nmAt (D.rdB (J.pos 0)).data.toList 12))).1 = J.next ∧ J.chk D.disk.length (unp (J.readK D (nmAt (D.rdB (J.pos 0)).data.toList 12))).2.1 = 0
      then some (unp (J.readK D (nmAt (D.rdB (J.pos 0)).data.toList 12))).2.1 else none) := rfl
  obtain ⟨HD0, hHD0⟩ : ∃ x, D.rdB (J.pos 0) = x := ⟨_, rfl⟩
  have CH : Hid (∀ W, Calls Try.prog 94 #[.string HD0] W fun e w' => e = .returned (.tuple #[.int .u64 (((hd HD0).1 : Nat) : Int), .int .i64 (((hd HD0).2.1 : Nat) : Int), .bool (hd HD0).2.2]) ∧ Below W.heap.size W w') := fun W => Fr.head_any HD0 W
  rw [hHD0] at HFr CR0
  obtain ⟨n, hn⟩ : ∃ n, nmAt HD0.data.toList 12 = n := ⟨_, rfl⟩
  rw [hn] at HFr
  cases hB : headB HD0.data.toList with
  | false =>
    have HR : Hid (J.frameOf D = none) := by show _ = _; rw [HFr.out, if_neg (by rw [hB]; simp)]
    rw [Fr.headB_false hB] at CH
    clear hB HFr hn hHD0
    go_enter Try.func76, Try.ntmps76
    go_wp2_with fail
    go_region_held3 (fun W => W.cell? ⟨a, 0, none⟩ = some (.pointer (some ⟨p, 0, none⟩)))
      (first | exact ca | exact HKp.out _ (by assumption))
      (first | (go_at_call 67; refine (CB0.out _ ?_).mono ?_; exact (Below.refl _ _).drew; rintro e w' ⟨rfl, rfl⟩)
             | (go_at_call 37; refine (CR0.out _ ?_).mono ?_; exact ((Below.refl _ _).drew).drew; rintro r w1 ⟨rfl, hb1'⟩; have hb1 : Below w.heap.size w w1 := Fr.below_predrew (Fr.below_predrew hb1'); clear hb1'))
    all_goals
      have HB1 := Lib.hid hb1
      clear hb1
      go_wp2_with fail
      refine (CH.out _).mono ?_
      rintro e w2 ⟨rfl, hb2⟩
      have HB2 := Lib.hid (HB1.out.trans (hb2.mono HB1.out.size)); clear hb2
      go_wp2
      go_ret2
      exact ⟨_, rfl, by rw [HR.out]; exact OwnW.nil _ _, HB2.out⟩
  | true =>
    rw [Fr.headB_true hB] at CH
    have hn48 : 1 ≤ n ∧ n ≤ 48 := by rw [← hn]; exact ⟨((Fr.headB_iff _).1 hB).2.2.2.1, ((Fr.headB_iff _).1 hB).2.2.2.2.1⟩
    simp only [hn] at CH
    generalize Fr.seqOf HD0.data.toList = sq0 at *
    have hlf : J.left = J.log - J.full := rfl
    by_cases hlt : J.left < n + 1
    · have HR : Hid (J.frameOf D = none) := by show _ = _; rw [HFr.out, if_neg (fun h => by omega)]
      have hlt' : (J.left : Int) < (n : Int) + 1 := by omega
      clear hB HFr hn hHD0 hlf
      go_enter Try.func76, Try.ntmps76
      go_wp2_with fail
      go_region_held3 (fun W => W.cell? ⟨a, 0, none⟩ = some (.pointer (some ⟨p, 0, none⟩)))
        (first | exact ca | exact HKp.out _ (by assumption))
        (first | (go_at_call 67; refine (CB0.out _ ?_).mono ?_; exact (Below.refl _ _).drew; rintro e w' ⟨rfl, rfl⟩)
               | (go_at_call 37; refine (CR0.out _ ?_).mono ?_; exact ((Below.refl _ _).drew).drew; rintro r w1 ⟨rfl, hb1'⟩; have hb1 : Below w.heap.size w w1 := Fr.below_predrew (Fr.below_predrew hb1'); clear hb1'))
      all_goals
        have HB1 := Lib.hid hb1
        clear hb1
        go_wp2_with fail
        refine (CH.out _).mono ?_
        rintro e w2 ⟨rfl, hb2⟩
        have HB2 := Lib.hid (HB1.out.trans (hb2.mono HB1.out.size)); clear hb2
        go_wp2_with fail
        refine (CL.out _ HB2.out).mono ?_
        rintro e w3 ⟨rfl, rfl⟩
        go_wp2
        go_ret2
        exact ⟨_, rfl, by rw [HR.out]; exact OwnW.nil _ _, HB2.out.drew⟩
    · have hlt' : ¬ (J.left : Int) < (n : Int) + 1 := by omega
      have hfull : J.full + n + 1 ≤ J.log := by omega
      clear hn hlf
      go_enter Try.func76, Try.ntmps76
      go_wp2_with fail
      go_region_held3 (fun W => W.cell? ⟨a, 0, none⟩ = some (.pointer (some ⟨p, 0, none⟩)))
        (first | exact ca | exact HKp.out _ (by assumption))
        (first | (go_at_call 67; refine (CB0.out _ ?_).mono ?_; exact (Below.refl _ _).drew; rintro e w' ⟨rfl, rfl⟩)
               | (go_at_call 37; refine (CR0.out _ ?_).mono ?_; exact ((Below.refl _ _).drew).drew; rintro r w1 ⟨rfl, hb1'⟩; have hb1 : Below w.heap.size w w1 := Fr.below_predrew (Fr.below_predrew hb1'); clear hb1'))
      all_goals
        have HB1 := Lib.hid hb1
        clear hb1
        go_wp2_with fail
        refine (CH.out _).mono ?_
        rintro e w2 ⟨rfl, hb2⟩
        have HB2 := Lib.hid (HB1.out.trans (hb2.mono HB1.out.size)); clear hb2
        go_wp2_with fail
        refine (CL.out _ HB2.out).mono ?_
        rintro e w3 ⟨rfl, rfl⟩
        have hbr2 := HB2.out.size
        go_wp2_with fail
        have hO0 : OwnS w.heap.size (w2.alloc (.cells #[.string HD0] 9)) (.slice (some ⟨w2.heap.size, 0, none⟩) 1 1) [HD0] := World.ownsRow_lit w2 #[.string HD0] 1 hbr2 (by unfold maxLen; omega) rfl
        have HO : Hid (OwnS w.heap.size (w2.alloc (.cells #[.string HD0] 9)).drew (.slice (some ⟨w2.heap.size, 0, none⟩) 1 1) (J.readK D 0)) := by
          have := hO0.below ((Below.refl _ _).drew)
          unfold JS.readK; rw [hHD0]; exact this
        clear hO0
        have HBa : Hid (Below w.heap.size w (w2.alloc (.cells #[.string HD0] 9)).drew) := (HB2.out.alloc hbr2 _).drew
        generalize (w2.alloc (.cells #[.string HD0] 9)).drew = w6 at *
        generalize (.slice (some ⟨w2.heap.size, 0, none⟩) 1 1 : Value) = v6 at *
        clear HB1 HB2 hbr2 CH CL
        go_loopw [9, 46] (fun fv i wr => ∃ k : Nat, k ≤ n ∧ i = .int .i64 k ∧ Hid (OwnS w.heap.size wr fv (J.readK D k)) ∧ Hid (Below w.heap.size w wr)) (fun _ i _ => n - (intOf i).toNat)
        case atStart => exact ⟨0, Nat.zero_le _, rfl, HO, HBa⟩
        case round =>
          clear HO HBa
          obtain ⟨k, hk, rfl, HO, HB⟩ := hrel
          have hbr := HB.out.size
          have car := HKp.out _ HB.out
          by_cases hlk : k < n
          · have hlk' : (k : Int) < (n : Int) := by omega
            have CBk : Hid (∀ W, Below w.heap.size w W → Calls Try.prog 67 #[.pointer (some ⟨a, 0, none⟩), .int .i64 (1 + (k : Int))] W fun e w' => e = .returned (.int .i64 (J.pos (k + 1))) ∧ w' = W.drew) := fun W hW => by
              have := CB.out W (k + 1) (by omega) hW
              rw [show (((k + 1 : Nat)) : Int) = 1 + (k : Int) by omega] at this
              exact this
            have CRk : Hid (∀ W, Below w.heap.size w W → Calls Try.prog 37 #[.pointer (some ⟨p, 0, none⟩), .int .i64 ((J.pos (k + 1) : Nat) : Int)] W fun e w' => e = .returned (.tuple #[.string (D.rdB (J.pos (k + 1))), .int .i64 0]) ∧ Below W.heap.size W w') := fun W hW => CR.out W (k + 1) hW
            have HSN := Lib.hid (readK_succ J D k)
            have hlen : (J.readK D k).length ≤ 49 := by rw [readK_len]; omega
            obtain ⟨M, hM⟩ : ∃ M, J.readK D k = M := ⟨_, rfl⟩
            rw [hM] at HO HSN hlen
            clear hM
            generalize D.rdB (J.pos (k + 1)) = pt at *
            generalize J.pos (k + 1) = pi at *
            have w1k : IntKind.i64.wrap (1 + (k : Int)) = 1 + (k : Int) := IntWalk.i64_in _ (by omega)
            go_wp2_with fail
            go_region_held3 (fun W => W.cell? ⟨a, 0, none⟩ = some (.pointer (some ⟨p, 0, none⟩)))
              (first | exact car | exact HKp.out _ (by assumption))
              (first | (go_at_call 67; refine (CBk.out _ ?_).mono ?_; exact HB.out.drew; rintro e w' ⟨rfl, rfl⟩)
                     | (go_at_call 37; refine (CRk.out _ ?_).mono ?_; exact (HB.out.drew).drew; rintro r w7 ⟨rfl, hb7'⟩; have hb7 : Below w.heap.size w w7 := HB.out.trans ((Fr.below_predrew (Fr.below_predrew hb7')).mono hbr); have HO7 := Lib.hid (HO.out.below (Fr.below_predrew (Fr.below_predrew hb7'))); clear hb7'))
            all_goals
              have HB7 := Lib.hid hb7
              clear hb7 HO
              have hbr7 := HB7.out.size
              go_wp2_with (at_builtin; go_loud (refine wpList_append_own _ rfl _ _ 22 rfl w.heap.size 9 i0 _ 1 16 Try.underlying22 hi hz0 hz1 HZ2.out rfl (by decide) _ _ _ rfl (HO7.out.alloc _) _ 1 1 [.string pt] rfl rfl (one_cell rfl) one_one ?c3 ?c4 ?c5 ?_))
              case c3 => unfold maxLen; omega
              case c4 => omega
              case c5 => simp; omega
              intro v1 w8 hown hgrow _
              have HO8 : Hid (OwnS w.heap.size w8 v1 (J.readK D (k + 1))) := by
                show OwnS _ _ _ _
                rw [HSN.out]; exact own_push hown
              have HB8 : Hid (Below w.heap.size w w8) := ((HB7.out.alloc hbr7 _).grown hgrow (by simp; omega) (fun q hq => (HO7.out.lt q hq).1))
              clear hown hgrow
              go_wp2
              go_roundw
              case rel => exact ⟨k + 1, by omega, by go_num, HO8, HB8⟩
              case measure => simp [intOf]; omega
          · have hkn : k = n := by omega
            subst hkn
            have hlk' : ¬ (k : Int) < (k : Int) := by omega
            have hcu : ∀ d ∈ J.readK D k, d.size = 256 := fun d hd => by
              unfold JS.readK at hd
              rcases List.mem_cons.1 hd with rfl | hd
              · exact HSZ.out 0
              · obtain ⟨i, _, rfl⟩ := List.mem_map.1 hd; exact HSZ.out (i + 1)
            have CU := Lib.hid (Fr.unpack_any (J.readK D k) u9 wr (by rw [readK_len]; omega) (fun d hd => by rw [hcu d hd]; unfold maxLen; omega) HO.out.sl)
            clear hcu
            have c6r := HK6.out _ HB.out
            obtain ⟨ao9, c9, hv9, _⟩ := HO.out.sl
            subst hv9
            go_wp2_with fail
            refine CU.out.mono ?_
            rintro e w7 ⟨u, rfl, hu7, hb7⟩
            have HB7 := Lib.hid (HB.out.trans (hb7.mono hbr))
            have HU7 := Lib.hid (hu7.mono hbr)
            clear hu7 hb7 CU c6r
            have c67 := HK6.out _ HB7.out
            have hF2 : J.frameOf D = if (unp (J.readK D k)).2.2 = 0 ∧ (unp (J.readK D k)).1 = J.next ∧ J.chk D.disk.length (unp (J.readK D k)).2.1 = 0 then some (unp (J.readK D k)).2.1 else none := by
              rw [HFr.out]
              by_cases hX : (unp (J.readK D k)).2.2 = 0 ∧ (unp (J.readK D k)).1 = J.next ∧ J.chk D.disk.length (unp (J.readK D k)).2.1 = 0
              · rw [if_pos hX, if_pos ⟨hB, by omega, hX⟩]
              · rw [if_neg hX, if_neg (fun h => hX h.2.2)]
            have HF2 := Lib.hid hF2; clear hF2 HFr
            have hws : (unp (J.readK D k)).2.1.length ≤ 1000 ∧ ∀ x ∈ (unp (J.readK D k)).2.1, x.2.size ≤ maxLen := by
              have h1 := unp_some (J.readK D k) (fun d hd => by
                unfold JS.readK at hd
                rcases List.mem_cons.1 hd with rfl | hd
                · exact HSZ.out 0
                · obtain ⟨i, _, rfl⟩ := List.mem_map.1 hd; exact HSZ.out (i + 1))
              rw [readK_len] at h1
              exact ⟨by omega, fun x hx => by rw [h1.2 x hx]; unfold maxLen; omega⟩
            have HC7 : Hid (∀ W, Below w7.heap.size w7 W → Calls Try.prog 60 #[.pointer (some ⟨a, 0, none⟩), u] W fun e w' => e = .returned (.int .i64 ((J.chk D.disk.length (unp (J.readK D k)).2.1 : Nat) : Int)) ∧ Below W.heap.size W w') :=
              fun W hW => CK.out W u _ (HB7.out.trans (hW.mono HB7.out.size)) hws.1 hws.2 (HU7.out.sl.below hW)
            clear hws CK
            have hn64 : (unp (J.readK D k)).1 < 18446744073709551616 := unp_seq _
            have hx64 := HOK.out.n64
            generalize unp (J.readK D k) = U at *
            obtain ⟨sq, ws, er⟩ := U
            simp only at HF2 HC7 HU7 hn64 ⊢
            generalize J.chk D.disk.length ws = ck at *
            obtain ⟨ao10, c10, hv10, _⟩ := HU7.out.sl
            subst hv10
            have HNil : Hid (∀ W, Below w.heap.size w W → OwnW w.heap.size W (.slice none 0 0) []) := fun W _ => OwnW.nil _ _
            by_cases h1 : er = 0
            · have h1' : (((er : Nat) : Int) != 0) = false := by simp [h1]
              by_cases h2 : sq = J.next
              · have h2' : (((sq : Nat) : Int) != (J.next : Int)) = false := by simp [h2]
                by_cases h3 : ck = 0
                · have h3' : (((ck : Nat) : Int) != 0) = false := by simp [h3]
                  rw [if_pos ⟨h1, h2, h3⟩] at HF2
                  clear h1 h2 h3
                  go_wp2_with fail
                  refine (HC7.out _ (Below.refl _ _)).mono ?_
                  rintro e w8 ⟨rfl, hb8⟩
                  have HB8 := Lib.hid (HB7.out.trans (hb8.mono HB7.out.size))
                  have HU8 := Lib.hid (HU7.out.below hb8)
                  clear hb8
                  go_wp2
                  go_ret2
                  exact ⟨_, rfl, by rw [HF2.out]; exact HU8.out, HB8.out⟩
                · have h3' : (((ck : Nat) : Int) != 0) = true := by simp [h3]
                  rw [if_neg (fun h => h3 h.2.2)] at HF2
                  clear h1 h2 h3
                  go_wp2_with fail
                  refine (HC7.out _ (Below.refl _ _)).mono ?_
                  rintro e w8 ⟨rfl, hb8⟩
                  have HB8 := Lib.hid (HB7.out.trans (hb8.mono HB7.out.size))
                  clear hb8
                  go_wp2
                  go_ret2
                  exact ⟨_, rfl, by rw [HF2.out]; exact OwnW.nil _ _, HB8.out⟩
              · have h2' : (((sq : Nat) : Int) != (J.next : Int)) = true := by simp; omega
                rw [if_neg (fun h => h2 h.2.1)] at HF2
                clear h1 h2
                go_wp2
                go_ret2
                exact ⟨_, rfl, by rw [HF2.out]; exact OwnW.nil _ _, HB7.out⟩
            · have h1' : (((er : Nat) : Int) != 0) = true := by simp [h1]
              rw [if_neg (fun h => h1 h.1)] at HF2
              clear h1
              go_wp2
              go_ret2
              exact ⟨_, rfl, by rw [HF2.out]; exact OwnW.nil _ _, HB7.out⟩
end
end Go.Proofs.Ytodfcbpimglhdaa
/- What Checkpoint, add and Commit keep: in plain lists. -/
namespace Go.Proofs.Ytodfcbpimglhdaa
open Go.RowKit
section
variable {J : JS} {D : DevS} {n : Nat} {L : List (Int × ByteArray)}

theorem JS.Ok.next' (h : J.Ok n) : J.next'.Ok n := by
  have hp := h.pos_lt 0
  exact ⟨h.l0, h.l1, by show J.pos 0 - 2 < J.log; omega, by show 1 - J.side ≤ 1; omega, Nat.zero_le _, Nat.mod_lt _ (by omega), h.n64, h.n64⟩
theorem JS.Ok.grow (h : J.Ok n) (m : Nat) (hm : J.full + m ≤ J.log) : (J.grow m).Ok n :=
  ⟨h.l0, h.l1, h.pl, h.si, hm, h.e64, h.s64, Nat.mod_lt _ (by omega)⟩
theorem JS.ckp_err (h : (J.ckp D).1 ≠ 0) : (J.ckp D).2.2 = J := by
  unfold JS.ckp at *
  simp only at *
  split
  · rfl
  · rename_i h1
    rw [if_neg h1] at h
    split
    · rfl
    · rename_i h2; rw [if_neg h2] at h; exact absurd rfl h
theorem JS.ckp_good (h : (J.ckp D).1 = 0) : (J.ckp D).2.2 = J.next' := by
  unfold JS.ckp at *
  simp only at *
  split
  · rename_i h1; rw [if_pos h1] at h; exact absurd h h1
  · rename_i h1
    rw [if_neg h1] at h
    split
    · rename_i h2; rw [if_pos h2] at h; exact absurd h h2
    · rfl
theorem JS.ckp_disk : (J.ckp D).2.1.disk.length = D.disk.length := by
  unfold JS.ckp
  simp only
  split
  · exact D.stl_disk _
  · split
    · rw [DevS.stl_disk, DevS.stl_disk]
    · rw [DevS.stl_disk, DevS.stl_disk]
theorem JS.ckp_len : (J.ckp D).2.1.pend.length ≤ D.pend.length + 2 := by
  unfold JS.ckp
  simp only
  split
  · have := D.stl_len [(((J.pos 0 : Nat) : Int), noughts)]; simp at this; show (D.stl [(((J.pos 0 : Nat) : Int), noughts)]).2.pend.length ≤ _; omega
  · have h1 := D.stl_len [(((J.pos 0 : Nat) : Int), noughts)]
    have h2 := (D.stl [(((J.pos 0 : Nat) : Int), noughts)]).2.stl_len [(((1 - J.side : Nat) : Int), slotB ((J.e + 1) % 18446744073709551616) J.next J.log (J.pos 0 - 2))]
    simp at h1 h2
    split <;> (simp only; omega)
theorem JS.addF_disk {top : ByteArray} {ds : List ByteArray} : (J.addF D top ds).2.1.disk.length = D.disk.length := by
  unfold JS.addF
  simp only
  split
  · exact D.stl_disk _
  · split
    · rw [DevS.stl_disk, DevS.stl_disk]
    · rw [DevS.stl_disk, DevS.stl_disk]
theorem JS.dataW_len (ds : List ByteArray) : (J.dataW ds).length = ds.length + 1 := by simp [JS.dataW]
theorem JS.addF_len {top : ByteArray} {ds : List ByteArray} : (J.addF D top ds).2.1.pend.length ≤ D.pend.length + ds.length + 2 := by
  unfold JS.addF
  simp only
  split
  · have := D.stl_len (J.dataW ds); rw [JS.dataW_len] at this; show (D.stl (J.dataW ds)).2.pend.length ≤ _; omega
  · have h1 := D.stl_len (J.dataW ds)
    have h2 := (D.stl (J.dataW ds)).2.stl_len [(((J.pos 0 : Nat) : Int), top)]
    rw [JS.dataW_len] at h1
    simp at h2
    split <;> (simp only; omega)
theorem JS.addF_err {top : ByteArray} {ds : List ByteArray} (h : (J.addF D top ds).1 ≠ 0) : (J.addF D top ds).2.2 = J := by
  unfold JS.addF at *
  simp only at *
  split
  · rfl
  · rename_i h1
    rw [if_neg h1] at h
    split
    · rfl
    · rename_i h2; rw [if_neg h2] at h; exact absurd rfl h
theorem JS.addF_good {top : ByteArray} {ds : List ByteArray} (h : (J.addF D top ds).1 = 0) : (J.addF D top ds).2.2 = J.grow (ds.length + 1) := by
  unfold JS.addF at *
  simp only at *
  split
  · rename_i h1; rw [if_pos h1] at h; exact absurd h h1
  · rename_i h1
    rw [if_neg h1] at h
    split
    · rename_i h2; rw [if_pos h2] at h; exact absurd h h2
    · rfl
end
end Go.Proofs.Ytodfcbpimglhdaa
/- What add answers and leaves behind: a frame is laid behind those that are there. -/
namespace Go.Proofs.Ytodfcbpimglhdaa
open Go.RowKit
open Fr (SlW SlS WritesAt StrsAt OwnW flatI two_cells two_one own_pushW step_append_own)

section
variable {S S1 T : Nat → Prop} {w w1 w2 w' : World} {a p : Nat} {J J1 J2 : JS} {D D1 D2 : DevS} {v : Value} {top : ByteArray} {ds : List ByteArray}

/-- The writes of the first k blocks of a frame's data. -/
def JS.dataK (J : JS) (ds : List ByteArray) (k : Nat) : List (Int × ByteArray) := (List.range k).map fun i => (((J.pos (i + 1) : Nat) : Int), ds.getD i ByteArray.empty)
theorem dataK_succ (J : JS) (ds : List ByteArray) (k : Nat) : J.dataK ds (k + 1) = J.dataK ds k ++ [(((J.pos (k + 1) : Nat) : Int), ds.getD k ByteArray.empty)] := by
  unfold JS.dataK; rw [List.range_succ, List.map_append]; rfl
theorem dataK_len (J : JS) (ds : List ByteArray) (k : Nat) : (J.dataK ds k).length = k := by simp [JS.dataK]
theorem dataW_eq (J : JS) (ds : List ByteArray) : J.dataW ds = J.dataK ds ds.length ++ [(((J.pos (ds.length + 1) : Nat) : Int), noughts)] := rfl

set_option maxRecDepth 100000 in
set_option maxHeartbeats 2000000 in
theorem add_any (b off c : Nat) (hj : Jr 85 w a p J) (hd : Stands S w p D) (ha : ¬ S a) (ok : J.Ok D.disk.length) (hp : D.pend.length ≤ 800000) (hl : ds.length ≤ 48) (hf : J.full + ds.length + 1 ≤ J.log)
    (hb : b < w.heap.size) (hc : StrsAt w b off (top :: ds)) (hsb : ¬ S b) :
    Calls Try.prog 63 #[.pointer (some ⟨a, 0, none⟩), .slice (some ⟨b, off, none⟩) (ds.length + 1) c] w fun e w' => e = .returned (.int .i64 (J.addF D top ds).1) ∧ JLeaves 85 S w w' a p (J.addF D top ds).2.1 (J.addF D top ds).2.2 := by
  obtain ⟨i0, hi, hz0, hz1, hz2⟩ := info_parts Try.infoW
  have HZ2 := Lib.hid hz2; clear hz2
  have hnd := hd.ok.few
  have hll := ok.l1
  have hc0 : w.cell? ⟨b, off, none⟩ = some (.string top) := hc 0 (by simp)
  have HC : Hid (∀ k (h : k < ds.length), w.cell? ⟨b, off + (k + 1), none⟩ = some (.string (ds.getD k ByteArray.empty))) := by
    intro k hk
    have := hc (k + 1) (by simpa using hk)
    rw [this]; simp [hk]
  clear hc
  have HJ := Lib.hid hj; clear hj
  have HD := Lib.hid hd; clear hd
  have HA := Lib.hid ha; clear ha
  have HOK := Lib.hid ok; clear ok
  have HSB := Lib.hid hsb; clear hsb
  have CB : Hid (∀ W i, J.full + i ≤ J.log → Below w.heap.size w W → Calls Try.prog 67 #[.pointer (some ⟨a, 0, none⟩), .int .i64 ((i : Nat) : Int)] W fun e w' => e = .returned (.int .i64 (J.pos i)) ∧ w' = W.drew) :=
    fun W i h hW => behind_drew i (HJ.out.below hW) HOK.out hnd h
  obtain ⟨n, hn⟩ : ∃ n, ds.length = n := ⟨_, rfl⟩
  rw [hn] at hl hf HC ⊢
  have HN := Lib.hid hn; clear hn
  go_enter Try.func63, Try.ntmps63
  go_wp2_with fail
  go_loopw [5, 6] (fun wv i wr => ∃ k : Nat, k ≤ n ∧ i = .int .i64 ((k + 1 : Nat) : Int) ∧ Hid (OwnW w.heap.size wr wv (J.dataK ds k)) ∧ Hid (Below w.heap.size w wr)) (fun _ i _ => n + 1 - (intOf i).toNat)
  case atStart => exact ⟨0, Nat.zero_le _, rfl, OwnW.nil _ _, Below.refl _ _⟩
  case round =>
    obtain ⟨k, hk, rfl, HO, HB⟩ := hrel
    have hbr := HB.out.size
    by_cases hlt : k < n
    · have c1r := (HB.out.cell (p := ⟨b, off + (k + 1), none⟩) hb).trans (HC.out k hlt)
      have hlen : (J.dataK ds k).length ≤ 48 := by rw [dataK_len]; omega
      have HSN := Lib.hid (dataK_succ J ds k)
      have CB1 : Hid (∀ W, Below w.heap.size w W → Calls Try.prog 67 #[.pointer (some ⟨a, 0, none⟩), .int .i64 ((k + 1 : Nat) : Int)] W fun e w' => e = .returned (.int .i64 (J.pos (k + 1))) ∧ w' = W.drew) := fun W hW => CB.out W (k + 1) (by omega) hW
      obtain ⟨M, hM⟩ : ∃ M, J.dataK ds k = M := ⟨_, rfl⟩
      rw [hM] at HO HSN hlen
      clear hM
      generalize ds.getD k ByteArray.empty = pt at *
      generalize J.pos (k + 1) = pi at *
      obtain ⟨ao2, c2, hv, _⟩ := HO.out.sl
      subst hv
      have i1 : (k : Int) + 1 < (n : Int) + 1 := by omega
      have i0' : (0 : Int) ≤ (k : Int) + 1 := by omega
      go_wp2_with fail
      go_region_law (first
        | (refine step_append_own rfl (.tmp 15) (.tmp 24) 42 rfl w.heap.size 71 i0 (.agg #[.int .i64 0, .string ⟨#[]⟩]) 2 24 Try.underlying42 hi hz0 hz1 HZ2.out rfl (by omega) (.slice ao2 M.length c2) M.length (flatI M) (by kernel_rfl) ?own ⟨wr.heap.size, 0, none⟩ 1 1 [.int .i64 (pi : Int), .string pt] (by kernel_rfl) rfl (two_cells rfl) two_one (by unfold maxLen; omega) (by omega) ?base ?_
           case own => exact World.ownsRow.alloc (w := wr) HO.out _
           case base => simp; omega
           intro v1 w3 hown hgrow
           have HO3 := Lib.hid (own_pushW hown)
           have HB3 : Hid (Below w.heap.size w w3) := (((HB.out.drew).drew).alloc hbr _).grown hgrow (by simp; omega) (fun q hq => (HO.out.lt q hq).1)
           clear hown hgrow)
        | (go_simp; go_at_call 67; refine (CB1.out _ ?_).mono ?_; exact HB.out.drew; rintro e w1 ⟨rfl, rfl⟩))
      all_goals
        go_wp2
        go_roundw
        case rel => exact ⟨k + 1, by omega, by go_num, by show OwnW _ _ _ _; rw [HSN.out]; exact HO3.out, HB3⟩
        case measure => simp [intOf]; omega
    · have hkn : k = n := by omega
      subst hkn
      have i1 : ¬ (k : Int) + 1 < (k : Int) + 1 := by omega
      have CB1 : Hid (∀ W, Below w.heap.size w W → Calls Try.prog 67 #[.pointer (some ⟨a, 0, none⟩), .int .i64 ((k : Int) + 1)] W fun e w' => e = .returned (.int .i64 (J.pos (k + 1))) ∧ w' = W.drew) := fun W hW => CB.out W (k + 1) (by omega) hW
      have CB0 : Hid (∀ W, Below w.heap.size w W → Calls Try.prog 67 #[.pointer (some ⟨a, 0, none⟩), .int .i64 0] W fun e w' => e = .returned (.int .i64 (J.pos 0)) ∧ w' = W.drew) := fun W hW => CB.out W 0 (by omega) hW
      have hlen : (J.dataK ds k).length ≤ 48 := by rw [dataK_len]; omega
      have HDW : Hid (J.dataW ds = J.dataK ds k ++ [(((J.pos (k + 1) : Nat) : Int), noughts)]) := by show _ = _; rw [dataW_eq, HN.out]
      obtain ⟨ao2, c2, hv, _⟩ := HO.out.sl
      subst hv
      obtain ⟨M, hM⟩ : ∃ M, J.dataK ds k = M := ⟨_, rfl⟩
      rw [hM] at HO HDW hlen ⊢
      clear hM
      obtain ⟨pn, hpn⟩ : ∃ x, J.pos (k + 1) = x := ⟨_, rfl⟩
      rw [hpn] at HDW CB1
      clear hpn
      obtain ⟨NN, hNN⟩ : ∃ x, noughts = x := ⟨_, rfl⟩
      have CN : Hid (∀ W, Calls Try.prog 55 #[.int .i64 256] W fun e w' => e = .returned (.string NN) ∧ Below W.heap.size W w') := fun W => by rw [← hNN]; exact jnoughts_all W
      rw [hNN] at HDW
      clear hNN
      go_wp2_with fail
      refine (CB1.out _ HB.out).mono ?_
      rintro e w1 ⟨rfl, rfl⟩
      go_wp2_with fail
      refine (CN.out _).mono ?_
      rintro e w2 ⟨rfl, hb2⟩
      have HB2 : Hid (Below wr.heap.size wr w2) := Fr.below_predrew hb2
      clear hb2
      have hbr2 := HB2.out.size
      go_wp2_with (at_builtin; go_loud (refine wpList_append_own _ rfl _ _ 42 rfl w.heap.size 71 i0 _ 2 24 Try.underlying42 hi hz0 hz1 HZ2.out rfl (by decide) _ _ _ rfl ((HO.out.below HB2.out).alloc _) _ 1 1 [.int .i64 (pn : Int), .string NN] rfl rfl (two_cells rfl) two_one ?c3 ?c4 ?c5 ?_))
      case c3 => unfold maxLen; omega
      case c4 => omega
      case c5 => simp; omega
      intro v1 w3 hown hgrow _
      have hO3 := own_pushW hown
      have HB3 : Hid (Below w.heap.size w w3) := ((HB.out.trans (HB2.out.mono hbr)).alloc (by omega) _).grown hgrow (by simp; omega) (fun q hq => (HO.out.lt q hq).1)
      rw [← HDW.out] at hO3
      have HO3 := Lib.hid hO3
      clear hown hgrow hO3 HO HB2 HB CB1 CN
      have hSO : Outs S v1 := by
        intro g off' n' c' hv hg
        have h1 := (HO3.out.lt g (by rw [hv]; rfl)).1
        have h2 := HD.out.lt g hg
        omega
      have CS := Lib.hid (jsettle_any (L := J.dataW ds) (HJ.out.below HB3.out) (HD.out.below HB3.out) HA.out (by rw [HDW.out]; simp; omega) (by omega) HO3.out.sl hSO)
      have HLd : Hid ((D.stl (J.dataW ds)).2.pend.length ≤ 850000 ∧ (D.stl (J.dataW ds)).2.disk.length = D.disk.length) := by
        have := D.stl_len (J.dataW ds)
        refine ⟨?_, D.stl_disk _⟩
        rw [HDW.out, List.length_append, List.length_singleton] at this
        rw [HDW.out]; omega
      have HAd : Hid (J.addF D top ds = if (D.stl (J.dataW ds)).1 ≠ 0 then ((D.stl (J.dataW ds)).1, (D.stl (J.dataW ds)).2, J) else
          if ((D.stl (J.dataW ds)).2.stl [(((J.pos 0 : Nat) : Int), top)]).1 ≠ 0 then (((D.stl (J.dataW ds)).2.stl [(((J.pos 0 : Nat) : Int), top)]).1, ((D.stl (J.dataW ds)).2.stl [(((J.pos 0 : Nat) : Int), top)]).2, J) else
          (0, ((D.stl (J.dataW ds)).2.stl [(((J.pos 0 : Nat) : Int), top)]).2, J.grow (k + 1))) := by
        show J.addF D top ds = _
        unfold JS.addF
        rw [HN.out]
      generalize D.stl (J.dataW ds) = R1 at *
      obtain ⟨er1, D1⟩ := R1
      simp only at CS HLd HAd
      obtain ⟨ao3, c3, hv3, _⟩ := HO3.out.sl
      subst hv3
      clear HDW HO3 hSO
      go_wp2_with fail
      refine CS.out.mono ?_
      rintro e w4 ⟨rfl, hv4⟩
      have HV4 := Lib.hid (Leaves.from HB3.out hv4); clear hv4 CS
      by_cases he1 : er1 = 0
      · have he1' : (er1 != 0) = false := by simp [he1]
        rw [if_neg (by simpa using he1)] at HAd
        obtain ⟨S4, hS4, hs4, ho4⟩ := HV4.out
        have hna : ¬ S4 a := fun h => by rcases hS4 a h with h | h; exact HA.out h; have := HJ.out.lt; omega
        have hj4 := HJ.out.only ho4 HA.out
        have hok4 : J.Ok D1.disk.length := by rw [HLd.out.2]; exact HOK.out
        have hc4 : w4.cell? ⟨b, off, none⟩ = some (.string top) := (ho4.cell (p := ⟨b, off, none⟩) hb HSB.out).trans hc0
        have CB4 : Hid (∀ W, Below w4.heap.size w4 W → Calls Try.prog 67 #[.pointer (some ⟨a, 0, none⟩), .int .i64 0] W fun e w' => e = .returned (.int .i64 (J.pos 0)) ∧ w' = W.drew) := fun W hW =>
          behind_drew 0 (hj4.below hW) hok4 (by rw [HLd.out.2]; exact hnd) (by omega)
        obtain ⟨R2, hR2⟩ : ∃ R, D1.stl [(((J.pos 0 : Nat) : Int), top)] = R := ⟨_, rfl⟩
        rw [hR2] at HAd
        have CS4 : Hid (∀ W, Below w4.heap.size w4 W → Calls Try.prog 56 #[.pointer (some ⟨a, 0, none⟩), .slice (some ⟨W.heap.size, 0, none⟩) 1 1] (W.alloc (.cells #[.int .i64 ((J.pos 0 : Nat) : Int), .string top] 71)) fun e w' => e = .returned (.int .i64 R2.1) ∧ Leaves S4 w4 w' p R2.2) := by
          intro W hW
          rw [← hR2]
          exact (settle_one _ top (hj4.below hW) (hs4.below hW) hna (by have := HLd.out.1; omega)).mono fun e w' ⟨he, hl⟩ => ⟨he, Leaves.from hW hl⟩
        have HJ4 := Lib.hid hj4; have HS4 := Lib.hid hS4; have HSt4 := Lib.hid hs4; have HO4 := Lib.hid ho4; have HN4 := Lib.hid hna
        have HOK4 := Lib.hid hok4
        clear hj4 hS4 hs4 ho4 hna hok4
        have HD2 : Hid (R2.2.disk.length = D.disk.length) := by rw [← hR2]; show _ = _; rw [D1.stl_disk]; exact HLd.out.2
        clear hR2 hc0 CB CB0
        obtain ⟨p0, hp0⟩ : ∃ x, J.pos 0 = x := ⟨_, rfl⟩
        rw [hp0] at CB4 CS4
        clear hp0
        obtain ⟨er2, D2⟩ := R2
        simp only at HAd CS4 HD2
        have i2 : (0 : Int) < (k : Int) + 1 := by omega
        have hb4 : b < w4.heap.size := Nat.lt_of_lt_of_le hb HO4.out.size
        have HKB : Hid (∀ w' D', Leaves S4 w4 w' p D' → w'.cell? ⟨b, off, none⟩ = some (.string top)) := fun w' D' h => (h.only.cell (p := ⟨b, off, none⟩) hb4 (fun hs => by rcases HS4.out b hs with h | h; exact HSB.out h; omega)).trans hc4
        go_wp2_with fail
        go_region_held3 (fun W => W.cell? ⟨b, off, none⟩ = some (.string top))
          (first | exact hc4 | exact HKB.out _ _ (by assumption) | go_keep)
          (first | (go_at_call 67; refine (CB4.out _ ?_).mono ?_; exact (Below.refl _ _).drew; rintro e w' ⟨rfl, rfl⟩)
                 | (go_at_call 56; refine (CS4.out w4.drew.drew ?_).mono ?_; exact ((Below.refl _ _).drew).drew; rintro r w6 ⟨rfl, hv6⟩))
        have hj6 := HJ4.out.only hv6.only HN4.out
        by_cases he2 : er2 = 0
        · have he2' : (er2 != 0) = false := by simp [he2]
          rw [if_neg (by simpa using he2)] at HAd
          have CG := Lib.hid (grow_any (k + 1) hj6 (n := D2.disk.length) (by rw [HD2.out]; exact HOK.out) (by rw [HD2.out]; exact hnd) (by omega))
          obtain ⟨S6, hS6, hs6, ho6⟩ := hv6
          have hna6 : ¬ S6 a := fun h => by rcases hS6 a h with h | h; exact HN4.out h; have := HJ4.out.lt; omega
          have HS6 := Lib.hid hS6; have HSt6 := Lib.hid hs6; have HO6 := Lib.hid ho6; have HN6 := Lib.hid hna6
          clear hS6 hs6 ho6 hna6 hj6
          go_wp2_with fail
          refine CG.out.mono ?_
          rintro e w7 ⟨rfl, hj7, ho7, hz7⟩
          have HJ7 := Lib.hid hj7; have HO7 := Lib.hid ho7
          clear hj7 ho7 hz7 CG
          go_wp2
          go_ret
          refine ⟨by rw [HAd.out]; rfl, ?_⟩
          rw [HAd.out]
          exact JLeaves.next HS4.out (HO4.out.mono (fun _ _ h => .inl h)) ⟨S6, HS6.out, HSt6.out.kept HO7.out (fun k hk hka => HN6.out (hka ▸ hk)), HJ7.out, (HO6.out.mono (T := fun k => S4 k ∨ k = a) (fun _ _ h => .inl h)).trans HO7.out (fun _ _ h => .inr h)⟩
        · have he2' : (er2 != 0) = true := by simp [he2]
          rw [if_pos (by simpa using he2)] at HAd
          have HF : Hid (JLeaves 85 S w w6 a p D2 J) := JLeaves.next HS4.out (HO4.out.mono (fun _ _ h => .inl h)) (JLeaves.of hv6 HJ4.out HN4.out)
          clear hj6 hv6
          go_wp2
          go_ret
          exact ⟨by rw [HAd.out]; rfl, by rw [HAd.out]; exact HF.out⟩
      · have he1' : (er1 != 0) = true := by simp [he1]
        rw [if_pos (by simpa using he1)] at HAd
        have HF : Hid (JLeaves 85 S w w4 a p D1 J) := JLeaves.of HV4.out HJ.out HA.out
        go_wp2
        go_ret
        exact ⟨by rw [HAd.out]; rfl, by rw [HAd.out]; exact HF.out⟩
end
end Go.Proofs.Ytodfcbpimglhdaa
/- What Commit answers and leaves behind, for every journal over every device. -/
namespace Go.Proofs.Ytodfcbpimglhdaa
open Go.RowKit
open Fr (SlW SlS WritesAt StrsAt OwnS)

section
variable {S S1 T : Nat → Prop} {w w1 w2 w' : World} {a p : Nat} {J J1 J2 : JS} {D D1 D2 : DevS} {v : Value} {L : List (Int × ByteArray)}

theorem Outs.or_ne (h : Outs S v) (ha : ∀ g off n c, v = .slice (some ⟨g, off, none⟩) n c → g ≠ a) : Outs (fun k => S k ∨ k = a) v := fun g off n c hv hs => by
  rcases hs with hs | hs
  · exact h g off n c hv hs
  · exact ha g off n c hv hs
theorem Outs.grown {w : World} (h : Outs S v) (hl : ∀ g off n c, v = .slice (some ⟨g, off, none⟩) n c → g < w.heap.size) (hS : ∀ k, S1 k → S k ∨ w.heap.size ≤ k) : Outs S1 v := fun g off n c hv hs => by
  rcases hS g hs with h1 | h1
  · exact h g off n c hv h1
  · have := hl g off n c hv; omega
theorem JS.wrok_frame {n : Nat} (hn : n ≤ 4096) {x : Int × ByteArray} (h : J.WrOk n x) : Fr.WrOk x := by
  obtain ⟨h1, h2, h3⟩ := h
  unfold JS.home at h1
  exact ⟨by omega, by omega, h3⟩
/-- A slice that lies where there is something, and not at block a. -/
structure Lies (w : World) (a : Nat) (v : Value) : Prop where
  lt : ∀ g off n c, v = .slice (some ⟨g, off, none⟩) n c → g < w.heap.size
  ne : ∀ g off n c, v = .slice (some ⟨g, off, none⟩) n c → g ≠ a

set_option maxRecDepth 100000 in
set_option maxHeartbeats 2000000 in
theorem commit_any (hj : Jr 85 w a p J) (hd : Stands S w p D) (ha : ¬ S a) (ok : J.Ok D.disk.length) (hp : D.pend.length ≤ 700000) (hl : L.length ≤ 1000) (hs : ∀ x ∈ L, x.2.size ≤ maxLen) (h : SlW w v L) (hou : Outs S v) (hli : Lies w a v) :
    Calls Try.prog 30 #[.pointer (some ⟨a, 0, none⟩), v] w fun e w' => e = .returned (.int .i64 (J.commit D L).1) ∧ JLeaves 85 S w w' a p (J.commit D L).2.1 (J.commit D L).2.2 := by
  have CC := Lib.hid (jcheck_any hj hd ok hl hs h)
  have hnd := hd.ok.few
  have hsh := h
  obtain ⟨lao, lc, rfl, _⟩ := hsh
  have HJ := Lib.hid hj; clear hj
  have HD := Lib.hid hd; clear hd
  have HA := Lib.hid ha; clear ha
  have HOK := Lib.hid ok; clear ok
  have HSl := Lib.hid h; clear h
  have HOu := Lib.hid hou; clear hou
  have HLi := Lib.hid hli; clear hli
  by_cases hc : J.chk D.disk.length L = 0
  · obtain ⟨l1, l2, hw⟩ := (J.chk_ok _ L).1 hc
    have HPk : Hid (Fr.pk J.next L = (Fr.packL J.next L, 0)) := by
      show _ = _
      unfold Fr.pk
      rw [if_pos ((Fr.chk_ok L).2 ⟨l1, l2, fun x hx => JS.wrok_frame hnd (hw x hx)⟩)]
    have CP : Hid (∀ W, Below w.heap.size w W → Calls Try.prog 61 #[.int .u64 (J.next : Int), .slice lao L.length lc] W fun e w' => ∃ u, e = .returned (.tuple #[u, .int .i64 0]) ∧ OwnS W.heap.size w' u (Fr.packL J.next L) ∧ Below W.heap.size W w') := fun W hW => by
      have := Fr.pack_any J.next L _ W HOK.out.n64 hl hs (HSl.out.below hW)
      rw [HPk.out] at this
      exact this
    have HCm0 : Hid (J.commit D L = (fun c : Int × DevS × JS => if c.1 ≠ 0 then c else if (c.2.2.addF c.2.1 (Fr.bs (Fr.topL J.next L)) (L.map (·.2))).1 ≠ 0 then c.2.2.addF c.2.1 (Fr.bs (Fr.topL J.next L)) (L.map (·.2)) else
        (((c.2.2.addF c.2.1 (Fr.bs (Fr.topL J.next L)) (L.map (·.2))).2.1.wrs L).1, ((c.2.2.addF c.2.1 (Fr.bs (Fr.topL J.next L)) (L.map (·.2))).2.1.wrs L).2, (c.2.2.addF c.2.1 (Fr.bs (Fr.topL J.next L)) (L.map (·.2))).2.2)) (if J.left < L.length + 2 then J.ckp D else (0, D, J))) := by
      show _ = _
      unfold JS.commit
      rw [if_neg (by simpa using hc)]
    rw [hc] at CC
    have c6 := HJ.out.c6
    have HW := Lib.hid hw
    clear hc hs hw HPk
    go_enter Try.func30, Try.ntmps30
    go_wp2_with fail
    refine CC.out.mono ?_
    rintro e w1 ⟨rfl, hb1⟩
    have HB1 := Lib.hid hb1; clear hb1 CC
    have c6' := (HB1.out.cell (p := ⟨a, 6, none⟩) HJ.out.lt).trans c6
    clear c6
    go_wp2_with fail
    refine (CP.out _ HB1.out).mono ?_
    rintro e w2 ⟨u, rfl, hu2, hb2⟩
    have HB2 := Lib.hid (HB1.out.trans (hb2.mono HB1.out.size))
    obtain ⟨g, c4, hv, hcap, hgb, hg2, hst, _⟩ := hu2.here (by simp [Fr.packL])
    have hlp : (Fr.packL J.next L).length = L.length + 1 := by simp [Fr.packL]
    rw [hlp] at hv hcap
    subst hv
    have hgw : w.heap.size ≤ g := Nat.le_trans HB1.out.size hgb
    have HRow := Lib.hid hst
    have hmB := HB1.out.size
    clear hu2 hb2 hst hlp HB1 c6'
    have CL := Lib.hid (left_drew (HJ.out.below HB2.out) HOK.out hnd)
    have hlf := HOK.out.fu
    have hlog := HOK.out.l1
    have hleft : J.left = J.log - J.full := rfl
    by_cases hlt : J.left < L.length + 2
    · rw [if_pos hlt] at HCm0
      have CK : Hid (∀ W, Below w2.heap.size w2 W → Calls Try.prog 35 #[.pointer (some ⟨a, 0, none⟩)] W fun e w' => e = .returned (.int .i64 (J.ckp D).1) ∧ JLeaves 85 S w2 w' a p (J.ckp D).2.1 (J.ckp D).2.2) := fun W hW =>
        (ckp_any ((HJ.out.below HB2.out).below hW) ((HD.out.below HB2.out).below hW) HA.out HOK.out (by omega)).mono fun e w' ⟨he, hv⟩ => ⟨he, JLeaves.from hW hv⟩
      have HCd : Hid ((J.ckp D).2.1.disk.length = D.disk.length ∧ (J.ckp D).2.1.pend.length ≤ 710000 ∧ ((J.ckp D).1 = 0 → (J.ckp D).2.2 = J.next')) := ⟨JS.ckp_disk, by have := JS.ckp_len (J := J) (D := D); omega, JS.ckp_good⟩
      generalize J.ckp D = R1 at *
      obtain ⟨er1, D0, J0⟩ := R1
      simp only at CK HCd HCm0
      have hlt' : (J.left : Int) < (L.length : Int) + 1 + 1 := by omega
      go_wp2_with fail
      refine CL.out.mono ?_
      rintro e w3 ⟨rfl, rfl⟩
      go_wp2_with fail
      refine (CK.out _ ((Below.refl _ _).drew)).mono ?_
      rintro e w4 ⟨rfl, hv4⟩
      obtain ⟨S0, hS0, hs0, hj0, ho0⟩ := hv4
      have hS0' : ∀ k, S0 k → S k ∨ w.heap.size ≤ k := fun k hk => by rcases hS0 k hk with h | h; exact .inl h; exact .inr (by have := HB2.out.size; omega)
      have hO0' : Only (fun k => S k ∨ k = a) w w4 := (Only.of_below _ HB2.out (Nat.le_refl _)).trans ho0 (fun _ _ h => h)
      by_cases he1 : er1 = 0
      · have he1' : (er1 != 0) = false := by simp [he1]
        rw [if_neg (by simpa using he1)] at HCm0
        obtain ⟨hk1, hk2, hk3⟩ := HCd.out
        have hJ0 := hk3 he1
        have HCm := HCm0; clear HCm0
        have HJ0 := Lib.hid hj0; have HD0 := Lib.hid hs0
        have HN0 : Hid (¬ S0 a) := fun h => by rcases hS0 a h with h | h; exact HA.out h; have := (HJ.out.below HB2.out).lt; omega
        have HOK0 : Hid (J0.Ok D0.disk.length) := by show J0.Ok _; rw [hk1, hJ0]; exact HOK.out.next'
        have HDk0 := Lib.hid hk1
        have hfu0 : J0.full = 0 ∧ J0.log = J.log := by rw [hJ0]; exact ⟨rfl, rfl⟩
        have hl50 := HOK.out.l0
        have hng : ¬ (S g ∨ g = a) := fun h => by rcases h with h | h; have := HD.out.lt _ h; omega; have := HJ.out.lt; omega
        have hg0 : g < w4.heap.size := Nat.lt_of_lt_of_le hg2 ho0.size
        have HNg : Hid (¬ S0 g) := fun h => by rcases hS0 g h with h | h; exact hng (.inl h); omega
        have HRow0 : Hid (StrsAt w4 g 0 (Fr.bs (Fr.topL J.next L) :: L.map (·.2))) := fun j hj => (ho0.cell (p := ⟨g, 0 + j, none⟩) hg2 hng).trans (HRow.out j hj)
        have HSl0 : Hid (SlW w4 (.slice lao L.length lc) L) := SlW.only HSl.out hO0' (HOu.out.or_ne HLi.out.ne)
        have HOu0 : Hid (Outs S0 (.slice lao L.length lc)) := HOu.out.grown HLi.out.lt hS0'
        have HNa0 := Lib.hid HLi.out.ne
        have HLt0 : Hid (∀ g off n c, (Value.slice lao L.length lc) = .slice (some ⟨g, off, none⟩) n c → g < w4.heap.size) := fun g off n c hv => Nat.lt_of_lt_of_le (HLi.out.lt g off n c hv) hO0'.size
        have HS0 := Lib.hid hS0'; have HO0 := Lib.hid hO0'
        clear hj0 hs0 hS0 hS0' ho0 hO0' hk3 hJ0 hng CK CL HRow CP
        have hf0 : J0.full + (L.map (·.2)).length + 1 ≤ J0.log := by rw [List.length_map]; omega
        have CA := Lib.hid (add_any (ds := L.map (·.2)) (top := Fr.bs (Fr.topL J.next L)) g 0 c4 HJ0.out HD0.out HN0.out HOK0.out (by omega) (by rw [List.length_map]; omega) hf0 hg0 HRow0.out HNg.out)
        rw [List.length_map] at CA
        have HX : Hid ((J0.addF D0 (Fr.bs (Fr.topL J.next L)) (L.map (·.2))).2.1.disk.length = D.disk.length ∧ (J0.addF D0 (Fr.bs (Fr.topL J.next L)) (L.map (·.2))).2.1.pend.length ≤ 800000) := by
          refine ⟨JS.addF_disk.trans HDk0.out, ?_⟩
          have := JS.addF_len (J := J0) (D := D0) (top := Fr.bs (Fr.topL J.next L)) (ds := L.map (·.2))
          rw [List.length_map] at this
          omega
        generalize J0.addF D0 (Fr.bs (Fr.topL J.next L)) (L.map (·.2)) = R2 at *
        obtain ⟨er2, D2, J2⟩ := R2
        simp only at CA HX HCm
        go_wp2_with fail
        refine CA.out.mono ?_
        rintro e w5 ⟨rfl, hv5⟩
        obtain ⟨S5, hS5, hs5, hj5, ho5⟩ := hv5
        by_cases he2 : er2 = 0
        · have he2' : (er2 != 0) = false := by simp [he2]
          rw [if_neg (by simpa using he2)] at HCm
          have hn5 : ¬ S5 a := fun h => by rcases hS5 a h with h | h; exact HN0.out h; have := HJ0.out.lt; omega
          have hsl5 : Fr.SlW w5 (.slice lao L.length lc) L := SlW.only HSl0.out ho5 (HOu0.out.or_ne HNa0.out)
          have hou5 : Outs S5 (.slice lao L.length lc) := HOu0.out.grown HLt0.out hS5
          have CW := Lib.hid (writeAll_any hj5 hs5 hn5 (by omega) (by have := HX.out.2; omega) hsl5 hou5)
          have HF : Hid (∀ w' , Leaves S5 w5 w' p (D2.wrs L).2 → JLeaves 85 S w w' a p (D2.wrs L).2 J2) := fun w' h => JLeaves.next HS0.out HO0.out (JLeaves.next hS5 ho5 (JLeaves.of h hj5 hn5))
          clear hS5 hs5 hj5 ho5 hn5 hsl5 hou5
          go_wp2_with fail
          refine CW.out.mono ?_
          rintro e w6 ⟨rfl, hv6⟩
          have HF2 := Lib.hid (HF.out _ hv6); clear hv6
          go_wp2
          go_ret
          exact ⟨by rw [HCm.out]; rfl, by rw [HCm.out]; exact HF2.out⟩
        · have he2' : (er2 != 0) = true := by simp [he2]
          rw [if_pos (by simpa using he2)] at HCm
          have HF : Hid (JLeaves 85 S w w5 a p D2 J2) := JLeaves.next HS0.out HO0.out ⟨S5, hS5, hs5, hj5, ho5⟩
          clear hS5 hs5 hj5 ho5
          go_wp2
          go_ret
          exact ⟨by rw [HCm.out]; rfl, by rw [HCm.out]; exact HF.out⟩
      · have he1' : (er1 != 0) = true := by simp [he1]
        rw [if_pos (by simpa using he1)] at HCm0
        have HF : Hid (JLeaves 85 S w w4 a p D0 J0) := ⟨S0, hS0', hs0, hj0, hO0'⟩
        clear hS0 hs0 hj0 ho0 hS0' hO0'
        go_wp2
        go_ret
        exact ⟨by rw [HCm0.out]; rfl, by rw [HCm0.out]; exact HF.out⟩
    · rw [if_neg hlt] at HCm0
      have HCm : Hid (J.commit D L = if (J.addF D (Fr.bs (Fr.topL J.next L)) (L.map (·.2))).1 ≠ 0 then J.addF D (Fr.bs (Fr.topL J.next L)) (L.map (·.2)) else
        (((J.addF D (Fr.bs (Fr.topL J.next L)) (L.map (·.2))).2.1.wrs L).1, ((J.addF D (Fr.bs (Fr.topL J.next L)) (L.map (·.2))).2.1.wrs L).2, (J.addF D (Fr.bs (Fr.topL J.next L)) (L.map (·.2))).2.2)) := HCm0.out
      clear HCm0
      have hlt' : ¬ (J.left : Int) < (L.length : Int) + 1 + 1 := by omega
      go_wp2_with fail
      refine CL.out.mono ?_
      rintro e w3 ⟨rfl, rfl⟩
      obtain ⟨w4, hw4⟩ : ∃ W, w2.drew = W := ⟨_, rfl⟩
      have hb4 : Below w2.heap.size w2 w4 := by rw [← hw4]; exact (Below.refl _ _).drew
      have hB4 : Below w.heap.size w w4 := HB2.out.trans (hb4.mono HB2.out.size)
      rw [hw4]
      clear hw4
      have HJ0 : Hid (Jr 85 w4 a p J) := HJ.out.below hB4
      have HD0 : Hid (Stands S w4 p D) := HD.out.below hB4
      have HN0 := HA
      have HOK0 := HOK
      have HDk0 : Hid (D.disk.length = D.disk.length) := rfl
      have hng : ¬ S g := fun h => by have := HD.out.lt _ h; omega
      have HNg := Lib.hid hng
      have hg0 : g < w4.heap.size := Nat.lt_of_lt_of_le hg2 hb4.size
      have HRow0 : Hid (StrsAt w4 g 0 (Fr.bs (Fr.topL J.next L) :: L.map (·.2))) := fun j hj => (hb4.cell (p := ⟨g, 0 + j, none⟩) hg2).trans (HRow.out j hj)
      have HSl0 : Hid (SlW w4 (.slice lao L.length lc) L) := HSl.out.below hB4
      have HOu0 := HOu
      have HNa0 := Lib.hid HLi.out.ne
      have HLt0 : Hid (∀ g off n c, (Value.slice lao L.length lc) = .slice (some ⟨g, off, none⟩) n c → g < w4.heap.size) := fun g off n c hv => Nat.lt_of_lt_of_le (HLi.out.lt g off n c hv) hB4.size
      have HS0 : Hid (∀ k, S k → S k ∨ w.heap.size ≤ k) := fun _ h => .inl h
      have HO0 : Hid (Only (fun k => S k ∨ k = a) w w4) := Only.of_below _ hB4 (Nat.le_refl _)
      clear hng hb4 hB4 CL HRow CP
      have hf0 : J.full + (L.map (·.2)).length + 1 ≤ J.log := by rw [List.length_map]; omega
      have CA := Lib.hid (add_any (ds := L.map (·.2)) (top := Fr.bs (Fr.topL J.next L)) g 0 c4 HJ0.out HD0.out HN0.out HOK0.out (by omega) (by rw [List.length_map]; omega) hf0 hg0 HRow0.out HNg.out)
      rw [List.length_map] at CA
      have HX : Hid ((J.addF D (Fr.bs (Fr.topL J.next L)) (L.map (·.2))).2.1.disk.length = D.disk.length ∧ (J.addF D (Fr.bs (Fr.topL J.next L)) (L.map (·.2))).2.1.pend.length ≤ 800000) := by
        refine ⟨JS.addF_disk.trans HDk0.out, ?_⟩
        have := JS.addF_len (J := J) (D := D) (top := Fr.bs (Fr.topL J.next L)) (ds := L.map (·.2))
        rw [List.length_map] at this
        omega
      generalize J.addF D (Fr.bs (Fr.topL J.next L)) (L.map (·.2)) = R2 at *
      obtain ⟨er2, D2, J2⟩ := R2
      simp only at CA HX HCm
      go_wp2_with fail
      refine CA.out.mono ?_
      rintro e w5 ⟨rfl, hv5⟩
      obtain ⟨S5, hS5, hs5, hj5, ho5⟩ := hv5
      by_cases he2 : er2 = 0
      · have he2' : (er2 != 0) = false := by simp [he2]
        rw [if_neg (by simpa using he2)] at HCm
        have hn5 : ¬ S5 a := fun h => by rcases hS5 a h with h | h; exact HN0.out h; have := HJ0.out.lt; omega
        have hsl5 : Fr.SlW w5 (.slice lao L.length lc) L := SlW.only HSl0.out ho5 (HOu0.out.or_ne HNa0.out)
        have hou5 : Outs S5 (.slice lao L.length lc) := HOu0.out.grown HLt0.out hS5
        have CW := Lib.hid (writeAll_any hj5 hs5 hn5 (by omega) (by have := HX.out.2; omega) hsl5 hou5)
        have HF : Hid (∀ w' , Leaves S5 w5 w' p (D2.wrs L).2 → JLeaves 85 S w w' a p (D2.wrs L).2 J2) := fun w' h => JLeaves.next HS0.out HO0.out (JLeaves.next hS5 ho5 (JLeaves.of h hj5 hn5))
        clear hS5 hs5 hj5 ho5 hn5 hsl5 hou5
        go_wp2_with fail
        refine CW.out.mono ?_
        rintro e w6 ⟨rfl, hv6⟩
        have HF2 := Lib.hid (HF.out _ hv6); clear hv6
        go_wp2
        go_ret
        exact ⟨by rw [HCm.out]; rfl, by rw [HCm.out]; exact HF2.out⟩
      · have he2' : (er2 != 0) = true := by simp [he2]
        rw [if_pos (by simpa using he2)] at HCm
        have HF : Hid (JLeaves 85 S w w5 a p D2 J2) := JLeaves.next HS0.out HO0.out ⟨S5, hS5, hs5, hj5, ho5⟩
        clear hS5 hs5 hj5 ho5
        go_wp2
        go_ret
        exact ⟨by rw [HCm.out]; rfl, by rw [HCm.out]; exact HF.out⟩
  · have HCm : Hid (J.commit D L = ((J.chk D.disk.length L : Int), D, J)) := by show _ = _; unfold JS.commit; rw [if_pos (by simpa using hc)]
    have hne : (((J.chk D.disk.length L : Nat) : Int) != 0) = true := by simp; omega
    have HF : Hid (∀ w', Below w.heap.size w w' → JLeaves 85 S w w' a p D J) := fun w' hb => (JLeaves.refl HD.out HJ.out).below hb
    generalize J.chk D.disk.length L = er at *
    clear hc hs
    go_enter Try.func30, Try.ntmps30
    go_wp2_with fail
    refine CC.out.mono ?_
    rintro e w1 ⟨rfl, hb1⟩
    have HF2 := Lib.hid (HF.out _ hb1); clear hb1 CC
    go_wp2
    go_ret
    exact ⟨by rw [HCm.out]; rfl, by rw [HCm.out]; exact HF2.out⟩
end
end Go.Proofs.Ytodfcbpimglhdaa
/- What redo answers and leaves behind: the log's frames, done at home, in order. -/
namespace Go.Proofs.Ytodfcbpimglhdaa
open Go.RowKit
open Fr (SlW SlS WritesAt StrsAt OwnS OwnW nmAt hd unp headB)

section
variable {S : Nat → Prop} {w w' : World} {a p : Nat} {J : JS} {D : DevS}

theorem unp_len (s : ByteArray) (l : List ByteArray) : (unp (s :: l)).2.1.length ≤ l.length := by
  rw [Fr.unp_cons]
  split
  · split
    · show ((Fr.blocksOf s.data.toList).zip (l.take (nmAt s.data.toList 12))).length ≤ _
      rw [List.length_zip, List.length_take]; omega
    · exact Nat.zero_le _
  · exact Nat.zero_le _
theorem frameOf_some {ws : List (Int × ByteArray)} (h : J.frameOf D = some ws) : 1 ≤ ws.length ∧ ws.length ≤ 48 ∧ ws.length + 1 ≤ J.left ∧ J.chk D.disk.length ws = 0 := by
  unfold JS.frameOf at h
  split at h
  · rename_i h1
    cases h
    have h2 := (J.chk_ok _ _).1 h1.2.2.2.2
    have h3 := unp_len (D.rdB (J.pos 0)) ((List.range (nmAt (D.rdB (J.pos 0)).data.toList 12)).map fun i => D.rdB (J.pos (i + 1)))
    rw [List.length_map, List.length_range] at h3
    have h4 : (unp (J.frameAt D)).2.1.length ≤ nmAt (D.rdB (J.pos 0)).data.toList 12 := h3
    exact ⟨h2.1, h2.2.1, by omega, h1.2.2.2.2⟩
  · cases h
theorem redoN_none (m : Nat) (h : J.frameOf D = none) : J.redoN D (m + 1) = (0, D, J) := by
  show (match J.frameOf D with | none => _ | some ws => _) = _
  rw [h]
theorem redoN_some (m : Nat) {ws : List (Int × ByteArray)} (h : J.frameOf D = some ws) : J.redoN D (m + 1) = if (D.wrs ws).1 ≠ 0 then ((D.wrs ws).1, (D.wrs ws).2, J.grow (ws.length + 1)) else (J.grow (ws.length + 1)).redoN (D.wrs ws).2 m := by
  show (match J.frameOf D with | none => _ | some ws => _) = _
  rw [h]

/-- Where the loop of redo stands, with m rounds to go at most. -/
def RedoI (t : TypeId) (S : Nat → Prop) (w : World) (a p : Nat) (J : JS) (D : DevS) (m : Nat) (wr : World) : Prop :=
  ∃ (Jk : JS) (Dk : DevS), Jk.redoN Dk m = J.redo D ∧ Jk.left < m ∧ Jk.Ok D.disk.length ∧ Dk.dead = false ∧ Dk.disk.length = D.disk.length ∧ Dk.pend.length + Jk.left ≤ D.pend.length + J.log ∧ JLeaves t S w wr a p Dk Jk

set_option maxRecDepth 100000 in
set_option maxHeartbeats 2000000 in
theorem redo_any (hj : Jr 85 w a p J) (hd : Stands S w p D) (ha : ¬ S a) (ok : J.Ok D.disk.length) (hde : D.dead = false) (hp : D.pend.length ≤ 700000) :
    Calls Try.prog 48 #[.pointer (some ⟨a, 0, none⟩)] w fun e w' => e = .returned (.int .i64 (J.redo D).1) ∧ JLeaves 85 S w w' a p (J.redo D).2.1 (J.redo D).2.2 := by
  have hnd := hd.ok.few
  have hll := ok.l1
  have HA := Lib.hid ha; clear ha
  have HI : Hid (RedoI 85 S w a p J D (J.log + 1) w) :=
    ⟨J, D, rfl, by unfold JS.left; omega, ok, hde, rfl, by unfold JS.left; omega, JLeaves.refl hd hj⟩
  have hJl := hj.lt
  clear hj hd ok hde
  go_enter Try.func48, Try.ntmps48
  go_wp2_with fail
  go_loopg [4] (J.log + 1) (fun m u wr => Hid (RedoI 85 S w a p J D m wr))
  case atStart => exact HI
  case round =>
    clear HI
    obtain ⟨Jk, Dk, he, hm, hok, hde, hdk, hpk, hlv⟩ := hrel.out
    clear hrel
    obtain ⟨m, rfl⟩ : ∃ m, gk = m + 1 := ⟨gk - 1, by omega⟩
    obtain ⟨S1, hS1, hs1, hj1, ho1⟩ := hlv
    have hal : a < w.heap.size := hJl
    have hna : ¬ S1 a := fun h => by rcases hS1 a h with h | h; exact HA.out h; omega
    have hok1 : Jk.Ok Dk.disk.length := by rw [hdk]; exact hok
    have CX := Lib.hid (next_any hj1 hs1 hok1 hde (by omega))
    have hleft : Jk.left ≤ 4096 := by have := hok.l1; unfold JS.left; omega
    cases hfr : Jk.frameOf Dk with
    | none =>
      have HR : Hid (J.redo D = (0, Dk, Jk)) := by show _ = _; rw [← he]; exact redoN_none m hfr
      have HF : Hid (∀ w2, Below wr.heap.size wr w2 → JLeaves 85 S w w2 a p Dk Jk) := fun w2 hb => JLeaves.below ⟨S1, hS1, hs1, hj1, ho1⟩ hb
      rw [hfr] at CX
      clear he hm hok hde hdk hpk hS1 hs1 hj1 ho1 hna hok1 hfr hleft
      go_wp2_with fail
      refine CX.out.mono ?_
      rintro e w2 ⟨u, rfl, hu, hb⟩
      have HF2 := Lib.hid (HF.out _ hb); clear hb
      have hsh := own_shape hu
      clear hu
      obtain ⟨ao, c, rfl⟩ := hsh
      simp only [Option.getD_none, List.length_nil]
      go_wp2
      go_ret
      exact ⟨by rw [HR.out]; rfl, by rw [HR.out]; exact HF2.out⟩
    | some ws =>
      obtain ⟨f1, f2, f3, f4⟩ := frameOf_some hfr
      have hE := redoN_some m hfr
      rw [he] at hE
      rw [hfr] at CX
      have hok2 : (Jk.grow (ws.length + 1)).Ok D.disk.length := hok.grow _ (by unfold JS.left at f3; have := hok.fu; omega)
      have hl2 : (Jk.grow (ws.length + 1)).left = Jk.left - (ws.length + 1) := by unfold JS.left JS.grow; simp only; omega
      have hwl := Dk.wrs_len ws
      have hwd := Dk.wrs_disk ws
      have hwlive := Dk.wrs_live ws hde
      have HE := Lib.hid hE
      have HS1 := Lib.hid hS1; have HO1 := Lib.hid ho1; have HSt1 := Lib.hid hs1; have HJ1 := Lib.hid hj1; have HNA := Lib.hid hna
      have HOK := Lib.hid hok1; have HOK2 := Lib.hid hok2
      have HWd := Lib.hid hwd; have HWl := Lib.hid hwlive
      have HDk := Lib.hid hdk
      clear hE he hS1 ho1 hs1 hj1 hna hok1 hok2 hok hde hfr hdk hwd hwlive f4
      simp only [Option.getD_some] at CX
      go_wp2_with fail
      refine CX.out.mono ?_
      rintro e w2 ⟨u, rfl, hu, hb⟩
      have HB2 := Lib.hid hb; have HU2 := Lib.hid hu
      clear hb hu CX
      have hsh := own_shape HU2.out
      obtain ⟨ao, c, hv⟩ := hsh
      subst hv
      have f1' : (((ws.length : Nat) : Int) == 0) = false := beq_eq_false_iff_ne.2 (by omega)
      have hj2 := HJ1.out.below HB2.out
      have CG := Lib.hid (grow_any (ws.length + 1) hj2 HOK.out (by rw [HDk.out]; exact hnd) (by omega))
      have hcast : ((ws.length + 1 : Nat) : Int) = (ws.length : Int) + 1 := by omega
      rw [hcast] at CG
      clear hcast
      have hs2 := HSt1.out.below HB2.out
      have HJ2 := Lib.hid hj2; have HSt2 := Lib.hid hs2
      clear hj2 hs2
      go_wp2_with fail
      refine CG.out.mono ?_
      rintro e w3 ⟨rfl, hj3, ho3, _⟩
      have hs3 : Stands S1 w3 p Dk := HSt2.out.kept ho3 (fun k hk hka => HNA.out (hka ▸ hk))
      have hou : ∀ g off n' c', Value.slice ao ws.length c = .slice (some ⟨g, off, none⟩) n' c' → wr.heap.size ≤ g := fun g off n' c' hv => (HU2.out.lt g (by rw [hv]; rfl)).1
      have hsl3 : SlW w3 (.slice ao ws.length c) ws := SlW.only HU2.out.sl ho3 (fun g off n' c' hv hg => by have := hou g off n' c' hv; have := HJ1.out.lt; omega)
      have hout : Outs S1 (.slice ao ws.length c) := fun g off n' c' hv hg => by have := hou g off n' c' hv; have := HSt1.out.lt _ hg; omega
      have CW := Lib.hid (writeAll_any hj3 hs3 HNA.out (by omega) (by omega) hsl3 hout)
      have HF : Hid (∀ w4, Leaves S1 w3 w4 p (Dk.wrs ws).2 → JLeaves 85 S w w4 a p (Dk.wrs ws).2 (Jk.grow (ws.length + 1))) := fun w4 h => by
        refine JLeaves.next HS1.out HO1.out (JLeaves.from HB2.out (JLeaves.next (fun _ h => .inl h) (ho3.mono (fun _ _ h => .inr h)) (JLeaves.of h hj3 HNA.out)))
      clear hj3 hs3 ho3 hou hsl3 hout CG
      generalize Dk.wrs ws = R at *
      obtain ⟨er, DR⟩ := R
      simp only at HE CW HF HWd HWl hwl
      by_cases her : er = 0
      · have her' : (er != 0) = false := by simp [her]
        rw [if_neg (by simpa using her)] at HE
        go_wp2_with fail
        refine CW.out.mono ?_
        rintro e w4 ⟨rfl, hv4⟩
        have HF4 := Lib.hid (HF.out _ hv4); clear hv4
        go_wp2
        go_roundg m
        case measure => exact Nat.lt_succ_self m
        case rel =>
          refine ⟨_, _, HE.out.symm, ?_, HOK2.out, HWl.out her, ?_, ?_, HF4.out⟩
          · rw [hl2]; omega
          · rw [HWd.out]; exact HDk.out
          · rw [hl2]; omega
      · have her' : (er != 0) = true := by simp [her]
        rw [if_pos (by simpa using her)] at HE
        go_wp2_with fail
        refine CW.out.mono ?_
        rintro e w4 ⟨rfl, hv4⟩
        have HF4 := Lib.hid (HF.out _ hv4); clear hv4
        go_wp2
        go_ret
        exact ⟨by rw [HE.out]; rfl, by rw [HE.out]; exact HF4.out⟩
end
end Go.Proofs.Ytodfcbpimglhdaa
/- What findSlot answers and leaves behind: the slot that counts. -/
namespace Go.Proofs.Ytodfcbpimglhdaa
open Go.RowKit

section
variable {S : Nat → Prop} {w w' : World} {a p : Nat} {J : JS} {D : DevS}

/-- The best of the first k slots, and its block. -/
def DevS.best (D : DevS) : Nat → Option ((Nat × Nat × Nat × Nat) × Nat)
  | 0 => none
  | k + 1 => match D.slotAt k with
    | none => D.best k
    | some x => match D.best k with
      | none => some (x, k)
      | some y => if y.1.1 < x.1 then some (x, k) else some y
/-- The journal while the slots are read. -/
def bestJ : Option ((Nat × Nat × Nat × Nat) × Nat) → JS
  | none => ⟨0, 0, 0, 0, 0, 0, 0⟩
  | some x => ⟨x.1.1, x.1.2.1, x.1.2.2.1, x.1.2.2.2, x.2, 0, 0⟩
theorem find_best (D : DevS) : D.find = (D.best 2).map (fun x => slotJ x.1 x.2) := by
  unfold DevS.find
  show _ = Option.map _ (match D.slotAt 1 with | none => D.best 1 | some x => match D.best 1 with | none => some (x, 1) | some y => if y.1.1 < x.1 then some (x, 1) else some y)
  have h1 : D.best 1 = match D.slotAt 0 with | none => none | some x => some (x, 0) := by
    show (match D.slotAt 0 with | none => D.best 0 | some x => match D.best 0 with | none => some (x, 0) | some y => if y.1.1 < x.1 then some (x, 0) else some y) = _
    rfl
  rw [h1]
  cases D.slotAt 0 with
  | none => cases D.slotAt 1 <;> rfl
  | some x =>
    cases D.slotAt 1 with
    | none => rfl
    | some y =>
      show (if x.1 < y.1 then _ else _) = Option.map _ (if x.1 < y.1 then _ else _)
      split <;> rfl
theorem best_one (D : DevS) (h : D.disk.length = 1) : D.best 2 = D.best 1 := by
  have : D.slotAt 1 = none := by unfold DevS.slotAt; rw [if_neg (by omega)]
  show (match D.slotAt 1 with | none => D.best 1 | some x => _) = _
  rw [this]
theorem best_none (D : DevS) (k : Nat) (h : D.slotAt k = none) : D.best (k + 1) = D.best k := by
  show (match D.slotAt k with | none => D.best k | some x => _) = _
  rw [h]
theorem best_some (D : DevS) (k : Nat) {x : Nat × Nat × Nat × Nat} (h : D.slotAt k = some x) : D.best (k + 1) = match D.best k with | none => some (x, k) | some y => if y.1.1 < x.1 then some (x, k) else some y := by
  show (match D.slotAt k with | none => D.best k | some x => _) = _
  rw [h]

set_option maxRecDepth 100000 in
set_option maxHeartbeats 2000000 in
theorem find_dead (hj : Jr 85 w a p J) (hd : Stands S w p D) (hde : D.dead = true) (hp : D.pend.length ≤ 1000000) :
    Calls Try.prog 47 #[.pointer (some ⟨a, 0, none⟩)] w fun e w' => e = .returned (.int .i64 4) ∧ Below w.heap.size w w' := by
  have h1 := hd.ok.some
  have hnd := hd.ok.few
  have hr : D.rd 0 = (ByteArray.empty, 4) := by unfold DevS.rd DevS.ck; rw [hde]; rfl
  have CBl : Hid (∀ W, Below w.heap.size w W → Calls Try.prog 38 #[.pointer (some ⟨p, 0, none⟩)] W fun e w' => e = .returned (.int .i64 D.disk.length) ∧ W = w') := fun W hW => blocks_any (hd.below hW)
  have CR : Hid (∀ W, Below w.heap.size w W → Calls Try.prog 37 #[.pointer (some ⟨p, 0, none⟩), .int .i64 0] W fun e w' => e = .returned (.tuple #[.string ByteArray.empty, .int .i64 4]) ∧ Below W.heap.size W w') := fun W hW => by
    have := read_any 0 hp (hd.below hW); rw [hr] at this; exact this
  have c0 := hj.c0
  have HKp : Hid (∀ W, Below w.heap.size w W → W.cell? ⟨a, 0, none⟩ = some (.pointer (some ⟨p, 0, none⟩))) := fun W hW => (hW.cell (p := ⟨a, 0, none⟩) hj.lt).trans c0
  clear hj hd hr
  generalize D.disk.length = nd at *
  obtain ⟨M, hM⟩ : ∃ M : Nat, M = min 2 nd := ⟨_, rfl⟩
  have hM1 : 1 ≤ M := by omega
  go_enter Try.func47, Try.ntmps47
  go_wp2_with fail
  refine (CBl.out _ (Below.refl _ _)).mono ?_
  rintro e w1 ⟨rfl, rfl⟩
  go_wp2_with fail
  go_loopw [15] (fun i wr => i = .int .i64 0 ∧ wr = w) (fun _ _ => 0)
  case atStart => exact ⟨rfl, rfl⟩
  case round =>
    obtain ⟨rfl, rfl⟩ := hrel
    have h2 : (0 : Int) < min 2 (nd : Int) := by omega
    go_wp2_with fail
    refine (CR.out _ (Below.refl _ _)).mono ?_
    rintro e w1 ⟨rfl, hb⟩
    have HB := Lib.hid hb; clear hb
    go_wp2
    go_ret
    exact ⟨rfl, HB.out⟩

/-- What findSlot tells. -/
def FindP (D : DevS) (a p : Nat) (e : Ending) (w' : World) : Prop := (D.find = none → e = .returned (.int .i64 10)) ∧ ∀ J, D.find = some J → e = .returned (.int .i64 0) ∧ Jr 85 w' a p J

/-- A slot's fields stored into a journal. -/
abbrev slW (w : World) (a : Nat) (x : Nat × Nat × Nat × Nat) (k : Nat) : World := ((((w.setCell ⟨a, 1, none⟩ (.int .u64 (x.1 : Int))).setCell ⟨a, 2, none⟩ (.int .u64 (x.2.1 : Int))).setCell ⟨a, 3, none⟩ (.int .i64 (x.2.2.1 : Int))).setCell ⟨a, 4, none⟩ (.int .i64 (x.2.2.2 : Int))).setCell ⟨a, 5, none⟩ (.int .i64 (k : Int))
theorem sl_only (w : World) (a : Nat) (x : Nat × Nat × Nat × Nat) (k : Nat) : Only (fun k => k = a) w (slW w a x k) :=
  (((((Only.refl (fun k => k = a) w).setCell (p := ⟨a, 1, none⟩) (fun _ => rfl) _).setCell (p := ⟨a, 2, none⟩) (fun _ => rfl) _).setCell (p := ⟨a, 3, none⟩) (fun _ => rfl) _).setCell (p := ⟨a, 4, none⟩) (fun _ => rfl) _).setCell (p := ⟨a, 5, none⟩) (fun _ => rfl) _
theorem Jr.sl {t : TypeId} (h : Jr t w a p J) (x : Nat × Nat × Nat × Nat) (k : Nat) : Jr t (slW w a x k) a p ⟨x.1, x.2.1, x.2.2.1, x.2.2.2, k, J.next, J.full⟩ := by
  have h1 := h.put (J' := { J with e := x.1 }) (i := 1) (v := .int .u64 (x.1 : Int)) (by simp [JCells])
  have h2 := h1.put (J' := { J with e := x.1, s := x.2.1 }) (i := 2) (v := .int .u64 (x.2.1 : Int)) (by simp [JCells])
  have h3 := h2.put (J' := { J with e := x.1, s := x.2.1, log := x.2.2.1 }) (i := 3) (v := .int .i64 (x.2.2.1 : Int)) (by simp [JCells])
  have h4 := h3.put (J' := { J with e := x.1, s := x.2.1, log := x.2.2.1, p := x.2.2.2 }) (i := 4) (v := .int .i64 (x.2.2.2 : Int)) (by simp [JCells])
  exact h4.put (J' := ⟨x.1, x.2.1, x.2.2.1, x.2.2.2, k, J.next, J.full⟩) (i := 5) (v := .int .i64 (k : Int)) (by simp [JCells])

set_option maxRecDepth 100000 in
set_option maxHeartbeats 4000000 in
theorem find_live (hj : Jr 85 w a p ⟨0, 0, 0, 0, 0, 0, 0⟩) (hd : Stands S w p D) (ha : ¬ S a) (hde : D.dead = false) (hp : D.pend.length ≤ 1000000) :
    Calls Try.prog 47 #[.pointer (some ⟨a, 0, none⟩)] w fun e w' => Only (fun k => k = a) w w' ∧ FindP D a p e w' := by
  have h1 := hd.ok.some
  have hnd := hd.ok.few
  have hal := hj.lt
  have CBl : Hid (∀ W, Only (fun k => k = a) w W → Calls Try.prog 38 #[.pointer (some ⟨p, 0, none⟩)] W fun e w' => e = .returned (.int .i64 D.disk.length) ∧ W = w') := fun W hW => blocks_any (hd.kept hW (fun k hk hka => ha (hka ▸ hk)))
  have CR : Hid (∀ W k, k < D.disk.length → Only (fun k => k = a) w W → Calls Try.prog 37 #[.pointer (some ⟨p, 0, none⟩), .int .i64 ((k : Nat) : Int)] W fun e w' => e = .returned (.tuple #[.string (D.rdB k), .int .i64 0]) ∧ Below W.heap.size W w') := fun W k hk hW => by
    have := read_any (k : Int) hp (hd.kept hW (fun k hk hka => ha (hka ▸ hk)))
    rw [DevS.rd_live hde _ hk] at this; exact this
  have CS : Hid (∀ W k, k < D.disk.length → Calls Try.prog 75 #[.string (D.rdB k), .int .i64 (D.disk.length : Int)] W fun r w' => r = .returned (slotV (D.slotAt k)) ∧ Below W.heap.size W w') := fun W k hk => by
    have := readSlot_any (D.rdB k) D.disk.length W (hd.ok.rdB_size k hk) hnd
    have e : D.slotAt k = rdSlot (D.rdB k) D.disk.length := by unfold DevS.slotAt; rw [if_pos hk]
    rw [e]; exact this
  have HFB := Lib.hid (find_best D)
  have HB1 := Lib.hid (best_one D)
  have HJ := Lib.hid hj
  have c0 := hj.c0
  clear hj hd ha hde
  obtain ⟨nd, hnd'⟩ : ∃ n, D.disk.length = n := ⟨_, rfl⟩
  rw [hnd'] at CBl CS CR h1 hnd HB1
  clear hnd'
  obtain ⟨M, hM⟩ : ∃ M : Nat, M = min 2 nd := ⟨_, rfl⟩
  have hMe : min 2 (nd : Int) = (M : Int) := by omega
  go_enter Try.func47, Try.ntmps47
  go_wp2_with fail
  refine (CBl.out _ (Only.refl _ _)).mono ?_
  rintro e w1 ⟨rfl, rfl⟩
  go_wp2_with fail
  go_loopw [3, 15] (fun fd i wr => ∃ k : Nat, k ≤ M ∧ i = .int .i64 k ∧ fd = .bool (D.best k).isSome ∧ Hid (Jr 85 wr a p (bestJ (D.best k))) ∧ Hid (Only (fun k => k = a) w wr)) (fun _ i _ => M - (intOf i).toNat)
  case atStart => exact ⟨0, Nat.zero_le _, rfl, rfl, HJ, Only.refl _ _⟩
  case round =>
    obtain ⟨k, hk, rfl, rfl, HJk, HO⟩ := hrel
    clear HJ c0
    by_cases hlt : k < M
    · have hkn : k < nd := by omega
      have ca := HJk.out.c0
      have halr := HJk.out.lt
      have CRk := Lib.hid (CR.out wr k hkn HO.out)
      have CSk := Lib.hid (fun W => CS.out W k hkn)
      have CBk : Hid (∀ W, Below wr.heap.size wr W → Calls Try.prog 38 #[.pointer (some ⟨p, 0, none⟩)] W fun e w' => e = .returned (.int .i64 nd) ∧ W = w') := fun W hW => CBl.out W (HO.out.trans (Only.of_below (fun _ => False) hW (Nat.le_refl _)) (fun _ _ f => f.elim))
      clear CR CS CBl
      generalize D.rdB k = tx at *
      have hlt' : (k : Int) < (M : Int) := by omega
      go_wp2_with fail
      refine CRk.out.mono ?_
      rintro e w1 ⟨rfl, hb1⟩
      have HB1' := Lib.hid hb1; clear hb1
      have ca1 := (HB1'.out.cell (p := ⟨a, 0, none⟩) halr).trans ca
      go_wp2_with fail
      refine (CBk.out _ HB1'.out).mono ?_
      rintro e w2 ⟨rfl, rfl⟩
      go_wp2_with fail
      refine (CSk.out _).mono ?_
      rintro e w3 ⟨rfl, hb3⟩
      have HB3 := Lib.hid (HB1'.out.trans (hb3.mono HB1'.out.size)); clear hb3 HB1' ca ca1 CRk CSk CBk
      have HJ3 := Lib.hid (HJk.out.below HB3.out)
      have HO3 : Hid (Only (fun k => k = a) w w3) := HO.out.trans (Only.of_below (fun _ => False) HB3.out (Nat.le_refl _)) (fun _ _ f => f.elim)
      have hal3 := HJ3.out.lt
      cases hs : D.slotAt k with
      | none =>
        have HBn : Hid (D.best (k + 1) = D.best k) := best_none D k hs
        have HBi : Hid ((D.best (k + 1)).isSome = (D.best k).isSome) := by show _ = _; rw [HBn.out]
        generalize (D.best k).isSome = fd at *
        simp only [slotV]
        clear hs
        go_wp2_with fail
        go_quiet (fail)
        go_wp2
        go_roundw
        case rel =>
          have hb : Below w3.heap.size w3 ((w3.alloc (.cells #[.int .u64 0, .int .u64 0, .int .i64 0, .int .i64 0] 83)).drewN nq) := Fr.below_drewN ((Below.refl _ _).alloc (Nat.le_refl _) _) _
          exact ⟨k + 1, by omega, by go_num, by rw [HBi.out], by rw [HBn.out]; exact HJ3.out.below hb, HO3.out.trans (Only.of_below (fun _ => False) hb (Nat.le_refl _)) (fun _ _ f => f.elim)⟩
        case measure => simp [intOf]; omega
      | some x =>
        have HBs := Lib.hid (best_some D k hs)
        clear hs
        obtain ⟨xe, xs, xl, xp⟩ := x
        simp only [slotV]
        obtain ⟨X, hX⟩ : ∃ X, w3.alloc (.cells #[.int .u64 (xe : Int), .int .u64 (xs : Int), .int .i64 (xl : Int), .int .i64 (xp : Int)] 83) = X := ⟨_, rfl⟩
        have hXb : Below w3.heap.size w3 X := by rw [← hX]; exact (Below.refl _ _).alloc (Nat.le_refl _) _
        have hXh : X.heap[w3.heap.size]? = some (.cells #[.int .u64 (xe : Int), .int .u64 (xs : Int), .int .i64 (xl : Int), .int .i64 (xp : Int)] 83 (0, 0)) := by rw [← hX, heap_alloc_new]
        have k0 : X.cell? ⟨w3.heap.size, 0, none⟩ = some (.int .u64 (xe : Int)) := by rw [cell_at hXh]; rfl
        have k1 : X.cell? ⟨w3.heap.size, 1, none⟩ = some (.int .u64 (xs : Int)) := by rw [cell_at hXh]; rfl
        have k2 : X.cell? ⟨w3.heap.size, 2, none⟩ = some (.int .i64 (xl : Int)) := by rw [cell_at hXh]; rfl
        have k3 : X.cell? ⟨w3.heap.size, 3, none⟩ = some (.int .i64 (xp : Int)) := by rw [cell_at hXh]; rfl
        have HJX := Lib.hid (HJ3.out.below hXb)
        have HOX : Hid (Only (fun k => k = a) w X) := HO3.out.trans (Only.of_below (fun _ => False) hXb (Nat.le_refl _)) (fun _ _ f => f.elim)
        have HX := Lib.hid hX
        have hne : w3.heap.size ≠ a := by omega
        clear hX hXb hXh HJ3 HO3 HB3 HJk
        cases hbk : D.best k with
        | none =>
          rw [hbk] at HBs HJX
          have HBn : Hid (D.best (k + 1) = some ((xe, xs, xl, xp), k)) := HBs.out
          simp only [Option.isSome_none]
          simp only [bestJ] at HJX
          clear HBs hbk
          have X0 := HJX.out.c1; have X1 := HJX.out.c2; have X2 := HJX.out.c3; have X3 := HJX.out.c4; have X4 := HJX.out.c5
          have F0 := HJX.out.f 1; have F1 := HJX.out.f 2; have F2 := HJX.out.f 3; have F3 := HJX.out.f 4; have F4 := HJX.out.f 5
          go_wp2_with fail
          rw [HX.out]
          go_quiet (fail)
          go_wp2_with fail
          go_region
          go_wp2
          go_roundw
          case rel => exact ⟨k + 1, by omega, by go_num, by rw [HBn.out]; rfl, by rw [HBn.out]; exact (HJX.out.sl (xe, xs, xl, xp) k).below (Fr.below_drewN (Below.refl _ _) _), (HOX.out.trans (sl_only X a (xe, xs, xl, xp) k) (fun _ _ h => h)).trans (Only.of_below (fun _ => False) (Fr.below_drewN (Below.refl _ _) _) (Nat.le_refl _)) (fun _ _ f => f.elim)⟩
          case measure => simp [intOf]; omega
        | some y =>
          obtain ⟨⟨ye, ys, yl, yp⟩, yi⟩ := y
          rw [hbk] at HBs HJX
          simp only [Option.isSome_some]
          simp only [bestJ] at HJX
          by_cases hg : ye < xe
          · have HBn : Hid (D.best (k + 1) = some ((xe, xs, xl, xp), k)) := by
              show _ = _; rw [HBs.out]; show (if ye < xe then _ else _) = _; rw [if_pos hg]
            have hg' : (ye : Int) < (xe : Int) := by omega
            have hgd : decide ((ye : Int) < (xe : Int)) = true := decide_eq_true hg'
            clear HBs hbk
            have X0 := HJX.out.c1; have X1 := HJX.out.c2; have X2 := HJX.out.c3; have X3 := HJX.out.c4; have X4 := HJX.out.c5
            have F0 := HJX.out.f 1; have F1 := HJX.out.f 2; have F2 := HJX.out.f 3; have F3 := HJX.out.f 4; have F4 := HJX.out.f 5
            go_wp2_with fail
            rw [HX.out]
            go_quiet (fail)
            go_wp2_with fail
            go_region
            go_wp2
            go_roundw
            case rel => exact ⟨k + 1, by omega, by go_num, by rw [HBn.out]; rfl, by rw [HBn.out]; exact (HJX.out.sl (xe, xs, xl, xp) k).below (Fr.below_drewN (Below.refl _ _) _), (HOX.out.trans (sl_only X a (xe, xs, xl, xp) k) (fun _ _ h => h)).trans (Only.of_below (fun _ => False) (Fr.below_drewN (Below.refl _ _) _) (Nat.le_refl _)) (fun _ _ f => f.elim)⟩
            case measure => simp [intOf]; omega
          · have HBn : Hid (D.best (k + 1) = some ((ye, ys, yl, yp), yi)) := by
              show _ = _; rw [HBs.out]; show (if ye < xe then _ else _) = _; rw [if_neg hg]
            have hg' : ¬ (ye : Int) < (xe : Int) := by omega
            have hgd : decide ((ye : Int) < (xe : Int)) = false := decide_eq_false hg'
            have X0 := HJX.out.c1
            clear HBs hbk
            go_wp2_with fail
            rw [HX.out]
            go_quiet (fail)
            go_wp2
            go_roundw
            case rel => exact ⟨k + 1, by omega, by go_num, by rw [HBn.out]; rfl, by rw [HBn.out]; exact HJX.out.below (Fr.below_drewN (Below.refl _ _) _), HOX.out.trans (Only.of_below (fun _ => False) (Fr.below_drewN (Below.refl _ _) _) (Nat.le_refl _)) (fun _ _ f => f.elim)⟩
            case measure => simp [intOf]; omega
    · have hkn : k = M := by omega
      have hb2 : D.best k = D.best 2 := by
        by_cases h2 : nd = 1
        · rw [HB1.out h2, hkn, hM, h2]; rfl
        · rw [hkn, hM, show min 2 nd = 2 by omega]
      have hlt' : ¬ (k : Int) < (M : Int) := by omega
      rw [hb2] at HJk ⊢
      cases hb : D.best 2 with
      | none =>
        rw [hb] at HJk
        have HF : Hid (D.find = none) := by show _ = _; rw [HFB.out, hb]; rfl
        simp only [Option.isSome_none]
        clear hb hb2 hkn
        go_wp2
        go_ret
        exact ⟨HO.out, fun _ => rfl, fun J h => by rw [HF.out] at h; cases h⟩
      | some y =>
        obtain ⟨⟨ye, ys, yl, yp⟩, yi⟩ := y
        rw [hb] at HJk
        have HF : Hid (D.find = some ⟨ye, ys, yl, yp, yi, ys, 0⟩) := by show _ = _; rw [HFB.out, hb]; rfl
        simp only [Option.isSome_some]
        simp only [bestJ] at HJk
        have c2 := HJk.out.c2; have c6 := HJk.out.c6; have f6 := HJk.out.f 6
        clear hb hb2 hkn
        go_wp2
        go_ret
        refine ⟨HO.out.setCell (p := ⟨a, 6, none⟩) (fun _ => rfl) _, fun h => (by rw [HF.out] at h; cases h), fun J h => ?_⟩
        rw [HF.out] at h
        cases h
        exact ⟨rfl, HJk.out.put (J' := ⟨ye, ys, yl, yp, yi, ys, 0⟩) (i := 6) (by simp [JCells])⟩
end
end Go.Proofs.Ytodfcbpimglhdaa
/- What Open answers and leaves behind, for every device. -/
namespace Go.Proofs.Ytodfcbpimglhdaa
open Go.RowKit

section
variable {S : Nat → Prop} {w w' : World} {a p : Nat} {J : JS} {D : DevS}

/-- What Open leaves: an error and nil, or a new journal. -/
def Opened (t : TypeId) (S : Nat → Prop) (w w' : World) (p : Nat) (r : Int × DevS × Option JS) (e : Ending) : Prop :=
  ∃ S' : Nat → Prop, (∀ k, S' k → S k ∨ w.heap.size ≤ k) ∧ Stands S' w' p r.2.1 ∧ Only S w w' ∧
    (match r.2.2 with
    | none => e = .returned (.tuple #[.pointer none, .int .i64 r.1])
    | some J => ∃ a, e = .returned (.tuple #[.pointer (some ⟨a, 0, none⟩), .int .i64 r.1]) ∧ w.heap.size ≤ a ∧ ¬ S' a ∧ Jr t w' a p J)

theorem rdSlot_ok {t : ByteArray} {n : Nat} {x : Nat × Nat × Nat × Nat} (h : rdSlot t n = some x) : 50 ≤ x.2.2.1 ∧ x.2.2.1 + 3 ≤ n ∧ x.2.2.2 < x.2.2.1 ∧ x.1 < 18446744073709551616 ∧ x.2.1 < 18446744073709551616 := by
  obtain ⟨⟨h1, h2, h3, _⟩, rfl⟩ := (rdSlot_iff t n x).1 h
  exact ⟨h1, h2, h3, wideAt_lt _ _, wideAt_lt _ _⟩
theorem find_ok (h : D.find = some J) : J.Ok D.disk.length ∧ J.full = 0 := by
  have hs : ∀ i x, i ≤ 1 → D.slotAt i = some x → (slotJ x i).Ok D.disk.length ∧ (slotJ x i).full = 0 := by
    intro i x hi hx
    unfold DevS.slotAt at hx
    split at hx
    · obtain ⟨h1, h2, h3, h4, h5⟩ := rdSlot_ok hx
      exact ⟨⟨h1, h2, h3, hi, Nat.zero_le _, h4, h5, h5⟩, rfl⟩
    · cases hx
  unfold DevS.find at h
  split at h
  · cases h
  · rename_i x h0 h1; cases h; exact hs 0 x (by omega) h0
  · rename_i x h0 h1; cases h; exact hs 1 x (by omega) h1
  · rename_i x y h0 h1
    split at h
    · cases h; exact hs 1 y (by omega) h1
    · cases h; exact hs 0 x (by omega) h0


theorem redoN_keeps (m : Nat) : ∀ (J : JS) (D : DevS), J.Ok D.disk.length → (J.redoN D m).2.1.disk.length = D.disk.length ∧ (J.redoN D m).2.2.Ok D.disk.length ∧ (J.redoN D m).2.1.pend.length + (J.redoN D m).2.2.left ≤ D.pend.length + J.left := by
  induction m with
  | zero => intro J D ok; exact ⟨rfl, ok, Nat.le_refl _⟩
  | succ m ih =>
    intro J D ok
    cases hfr : J.frameOf D with
    | none => rw [redoN_none m hfr]; exact ⟨rfl, ok, Nat.le_refl _⟩
    | some ws =>
      obtain ⟨f1, f2, f3, _⟩ := frameOf_some hfr
      have hl := ok.fu
      have ok2 : (J.grow (ws.length + 1)).Ok D.disk.length := ok.grow _ (by unfold JS.left at f3; omega)
      have hl2 : (J.grow (ws.length + 1)).left = J.left - (ws.length + 1) := by unfold JS.left JS.grow; simp only; omega
      have hw := D.wrs_len ws
      have hd := D.wrs_disk ws
      rw [redoN_some m hfr]
      split
      · refine ⟨by rw [hd], ok2, ?_⟩
        show (D.wrs ws).2.pend.length + (J.grow (ws.length + 1)).left ≤ _
        rw [hl2]; omega
      · have := ih (J.grow (ws.length + 1)) (D.wrs ws).2 (by rw [hd]; exact ok2)
        rw [hd] at this
        refine ⟨this.1, this.2.1, ?_⟩
        have := this.2.2
        rw [hl2] at this
        omega
/-- From what a call on the new journal leaves to what Open leaves. -/
theorem opened_of {X : World} {D' : DevS} {J' : JS} (hd : Stands S w p D) (hXb : Below w.heap.size w X) (hX : w.heap.size < X.heap.size) (h : JLeaves 85 S X w' w.heap.size p D' J') :
    ∃ S' : Nat → Prop, (∀ k, S' k → S k ∨ w.heap.size ≤ k) ∧ Stands S' w' p D' ∧ Only S w w' ∧ ¬ S' w.heap.size ∧ Jr 85 w' w.heap.size p J' := by
  obtain ⟨S', hS', hs, hj, ho⟩ := h
  refine ⟨S', fun k hk => ?_, hs, ?_, fun h => ?_, hj⟩
  · rcases hS' k hk with h | h
    · exact .inl h
    · exact .inr (by omega)
  · exact (Only.of_below S hXb (Nat.le_refl _)).trans ho (fun i hi h => by rcases h with h | h; exact h; omega)
  · rcases hS' _ h with h | h
    · have := hd.lt _ h; omega
    · omega

set_option maxRecDepth 100000 in
set_option maxHeartbeats 2000000 in
theorem open_any (hd : Stands S w p D) (hp : D.pend.length ≤ 600000) :
    Calls Try.prog 16 #[.pointer (some ⟨p, 0, none⟩)] w fun e w' => Opened 85 S w w' p D.opn e := by
  have hlt := hd.lt
  have hnd := hd.ok.few
  obtain ⟨X, hX⟩ : ∃ X, w.alloc (.cells #[.pointer (some ⟨p, 0, none⟩), .int .u64 0, .int .u64 0, .int .i64 0, .int .i64 0, .int .i64 0, .int .u64 0, .int .i64 0] 85) = X := ⟨_, rfl⟩
  have hXb : Below w.heap.size w X := by rw [← hX]; exact (Below.refl _ _).alloc (Nat.le_refl _) _
  have hXj : Jr 85 X w.heap.size p ⟨0, 0, 0, 0, 0, 0, 0⟩ := by unfold Jr; rw [← hX]; exact heap_alloc_new ..
  have hXs := hd.below hXb
  have hXz := hXj.lt
  have hna : ¬ S w.heap.size := fun h => by have := hlt _ h; omega
  have HX := Lib.hid hX; clear hX
  have HXB := Lib.hid hXb; have HD := Lib.hid hd
  cases hde : D.dead with
  | true =>
    have HO : Hid (D.opn = (4, D, none)) := by show _ = _; unfold DevS.opn; rw [hde]; rfl
    have CF := Lib.hid (find_dead hXj hXs hde (by omega))
    clear hXj hXs hna hde hlt hd hXb
    go_enter Try.func16, Try.ntmps16
    go_wp2_with fail
    rw [HX.out]
    refine CF.out.mono ?_
    rintro e w1 ⟨rfl, hb1⟩
    have HB1 : Hid (Below w.heap.size w w1) := HXB.out.trans (hb1.mono HXB.out.size)
    clear hb1
    go_wp2
    go_ret2
    unfold Opened
    rw [HO.out]
    exact ⟨S, fun _ => .inl, HD.out.below HB1.out, Only.of_below _ HB1.out (Nat.le_refl _), rfl⟩
  | false =>
    have CF := Lib.hid (find_live hXj hXs hna hde (by omega))
    cases hf : D.find with
    | none =>
      have HO : Hid (D.opn = (10, D, none)) := by show _ = _; unfold DevS.opn; rw [hde, hf]; rfl
      have HF := Lib.hid hf
      clear hXj hXs hna hde hlt hd hXb hf
      go_enter Try.func16, Try.ntmps16
      go_wp2_with fail
      rw [HX.out]
      refine CF.out.mono ?_
      rintro e w1 ⟨ho1, hp1, _⟩
      have he := hp1 HF.out
      subst he
      have HO1 : Hid (Only S w w1) := (Only.of_below S HXB.out (Nat.le_refl _)).trans ho1 (fun i hi h => by omega)
      have HS1 : Hid (Stands S w1 p D) := (HD.out.below HXB.out).kept ho1 (fun k hk hka => by have := HD.out.lt _ hk; omega)
      clear ho1 hp1 CF
      go_wp2
      go_ret2
      unfold Opened
      rw [HO.out]
      exact ⟨S, fun _ => .inl, HS1.out, HO1.out, rfl⟩
    | some J =>
      obtain ⟨hok, hfu⟩ := find_ok hf
      have HF := Lib.hid hf
      have HOp : Hid (D.opn = if (J.redo D).1 ≠ 0 then ((J.redo D).1, (J.redo D).2.1, none) else if ((J.redo D).2.2.ckp (J.redo D).2.1).1 ≠ 0 then (((J.redo D).2.2.ckp (J.redo D).2.1).1, ((J.redo D).2.2.ckp (J.redo D).2.1).2.1, none) else (0, ((J.redo D).2.2.ckp (J.redo D).2.1).2.1, some ((J.redo D).2.2.ckp (J.redo D).2.1).2.2)) := by
        show _ = _; unfold DevS.opn; rw [hde, hf]; rfl
      have hkp : (J.redo D).2.1.disk.length = D.disk.length ∧ (J.redo D).2.2.Ok D.disk.length ∧ (J.redo D).2.1.pend.length ≤ 700000 := by
        have h := redoN_keeps (J.log + 1) J D hok
        refine ⟨h.1, h.2.1, ?_⟩
        have h3 := h.2.2
        have := hok.l1
        have h4 : J.left ≤ 4096 := by unfold JS.left; omega
        show (J.redoN D (J.log + 1)).2.1.pend.length ≤ _
        omega
      have HK := Lib.hid hkp
      have HXS := Lib.hid hXs; have HNA := Lib.hid hna
      have HDE := Lib.hid hde; have HOK := Lib.hid hok
      clear hXj hXs hna hde hlt hd hXb hf hok hfu hkp
      go_enter Try.func16, Try.ntmps16
      go_wp2_with fail
      rw [HX.out]
      refine CF.out.mono ?_
      rintro e w1 ⟨ho1, _, hp1⟩
      obtain ⟨he, hj1⟩ := hp1 J HF.out
      subst he
      have hs1 : Stands S w1 p D := HXS.out.kept ho1 (fun k hk hka => HNA.out (hka ▸ hk))
      have CR := Lib.hid (redo_any hj1 hs1 HNA.out HOK.out HDE.out (by omega))
      have HO1 : Hid (∀ w2 D2 J2, JLeaves 85 S w1 w2 w.heap.size p D2 J2 → JLeaves 85 S X w2 w.heap.size p D2 J2) := fun w2 D2 J2 h => JLeaves.next (fun _ h => .inl h) (ho1.mono (fun _ _ h => .inr h)) h
      clear ho1 hp1 hj1 hs1 CF
      generalize J.redo D = R1 at *
      obtain ⟨er1, D1, J1⟩ := R1
      simp only at HOp HK CR
      go_wp2_with fail
      refine CR.out.mono ?_
      rintro e w2 ⟨rfl, hv2⟩
      have HV2 := Lib.hid (HO1.out _ _ _ hv2)
      clear hv2 CR HO1
      by_cases he1 : er1 = 0
      · have he1' : (er1 != 0) = false := by simp [he1]
        rw [if_neg (by simpa using he1)] at HOp
        obtain ⟨S2, hS2, hs2, hj2, ho2⟩ := HV2.out
        have hna2 : ¬ S2 w.heap.size := fun h => by rcases hS2 _ h with h | h; exact HNA.out h; omega
        have CK := Lib.hid (ckp_any hj2 hs2 hna2 (by rw [HK.out.1]; exact HK.out.2.1) (by have := HK.out.2.2; omega))
        have HV3 : Hid (∀ w3 D3 J3, JLeaves 85 S2 w2 w3 w.heap.size p D3 J3 → JLeaves 85 S X w3 w.heap.size p D3 J3) := fun w3 D3 J3 h => JLeaves.next hS2 ho2 h
        clear hS2 hs2 hj2 ho2 hna2 HV2
        generalize J1.ckp D1 = R2 at *
        obtain ⟨er2, D2, J2⟩ := R2
        simp only at HOp CK
        go_wp2_with fail
        refine CK.out.mono ?_
        rintro e w3 ⟨rfl, hv3⟩
        have HV := Lib.hid (HV3.out _ _ _ hv3)
        clear hv3 CK HV3
        by_cases he2 : er2 = 0
        · have he2' : (er2 != 0) = false := by simp [he2]
          rw [if_neg (by simpa using he2)] at HOp
          go_wp2
          go_ret2
          obtain ⟨S3, h1, h2, h3, h4, h5⟩ := opened_of HD.out HXB.out hXz HV.out
          unfold Opened
          rw [HOp.out]
          exact ⟨S3, h1, h2, h3, w.heap.size, rfl, Nat.le_refl _, h4, h5⟩
        · have he2' : (er2 != 0) = true := by simp [he2]
          rw [if_pos (by simpa using he2)] at HOp
          go_wp2
          go_ret2
          obtain ⟨S3, h1, h2, h3, h4, h5⟩ := opened_of HD.out HXB.out hXz HV.out
          unfold Opened
          rw [HOp.out]
          exact ⟨S3, h1, h2, h3, rfl⟩
      · have he1' : (er1 != 0) = true := by simp [he1]
        rw [if_pos (by simpa using he1)] at HOp
        go_wp2
        go_ret2
        obtain ⟨S3, h1, h2, h3, h4, h5⟩ := opened_of HD.out HXB.out hXz HV2.out
        unfold Opened
        rw [HOp.out]
        exact ⟨S3, h1, h2, h3, rfl⟩
end
end Go.Proofs.Ytodfcbpimglhdaa

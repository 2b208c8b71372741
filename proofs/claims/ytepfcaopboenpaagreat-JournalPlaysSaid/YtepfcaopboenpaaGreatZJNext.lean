/- What nextFrame answers: the writes of the frame behind those that are there, or nothing. -/
import Derived.Test.YtepfcaopboenpaaGreatZJCheck
import Derived.Test.YtepfcaopboenpaaGreatZJCkp
import Derived.Test.YtepfcaopboenpaaGreatZFHeadR
import Derived.Test.YtepfcaopboenpaaGreatZFBase

namespace Go.Proofs.YtepfcaopboenpaaGreat
open Go.RowKit
open Fr (SlW SlS WritesAt StrsAt OwnS OwnW nmAt hd unp headB own_push one_cell one_one)

section
variable {S : Nat → Prop} {w w' : World} {a p : Nat} {J : JS} {D : DevS}

theorem DevS.Ok.rdB_size (ok : D.Ok) (j : Nat) (hj : j < D.disk.length) : (D.rdB j).size = 256 := by
  unfold DevS.rdB
  split
  · rename_i x hx
    have := List.mem_of_find?_eq_some hx
    exact (ok.pends x (List.mem_reverse.1 this)).2
  · rw [getD_lt _ _ hj]; exact ok.whole _ (List.getElem_mem hj)
theorem DevS.rd_live (hde : D.dead = false) (j : Nat) (hj : j < D.disk.length) : D.rd (j : Int) = (D.rdB j, 0) := by
  have : D.ck (j : Int) = 0 := by
    unfold DevS.ck; rw [hde]; simp; omega
  unfold DevS.rd; rw [this]; simp
/-- The first k blocks of a frame's data, as they are read. -/
def JS.readK (J : JS) (D : DevS) (k : Nat) : List ByteArray := D.rdB (J.pos 0) :: (List.range k).map fun i => D.rdB (J.pos (i + 1))
theorem readK_succ (J : JS) (D : DevS) (k : Nat) : J.readK D (k + 1) = J.readK D k ++ [D.rdB (J.pos (k + 1))] := by
  unfold JS.readK; rw [List.range_succ, List.map_append]; rfl
theorem readK_len (J : JS) (D : DevS) (k : Nat) : (J.readK D k).length = k + 1 := by simp [JS.readK]

theorem unp_seq (l : List ByteArray) : (unp l).1 < 18446744073709551616 := by
  cases l with
  | nil => show 0 < _; omega
  | cons s D =>
    rw [Fr.unp_cons]
    split
    · split
      · show Fr.seqOf _ < _
        have h1 := Fr.nmAt_lt s.data.toList 4; have h2 := Fr.nmAt_lt s.data.toList 8
        unfold Fr.seqOf; omega
      · show 0 < _; omega
    · show 0 < _; omega
theorem unp_some (l : List ByteArray) (h : ∀ d ∈ l, d.size = 256) : (unp l).2.1.length ≤ l.length ∧ ∀ x ∈ (unp l).2.1, x.2.size = 256 := by
  cases l with
  | nil => exact ⟨Nat.le_refl _, fun x hx => by cases hx⟩
  | cons s D =>
    rw [Fr.unp_cons]
    split
    · split
      · refine ⟨?_, fun x hx => ?_⟩
        · show ((Fr.blocksOf s.data.toList).zip (D.take (nmAt s.data.toList 12))).length ≤ _
          rw [List.length_zip, List.length_take, List.length_cons]; omega
        · have hx' : x ∈ (Fr.blocksOf s.data.toList).zip (D.take (nmAt s.data.toList 12)) := hx
          have := (List.of_mem_zip hx').2
          exact h _ (List.mem_cons_of_mem _ (List.mem_of_mem_take this))
      · exact ⟨Nat.zero_le _, fun x hx => by cases hx⟩
    · exact ⟨Nat.zero_le _, fun x hx => by cases hx⟩

set_option maxRecDepth 100000 in
set_option maxHeartbeats 2000000 in
theorem next_any (hj : Jr 79 w a p J) (hd : Stands S w p D) (ok : J.Ok D.disk.length) (hde : D.dead = false) (hp : D.pend.length ≤ 1000000) :
    Calls Tryz.prog 81 #[.pointer (some ⟨a, 0, none⟩)] w fun e w' => ∃ u, e = .returned (.tuple #[u, .int .i64 0]) ∧ OwnW w.heap.size w' u ((J.frameOf D).getD []) ∧ Below w.heap.size w w' := by
  obtain ⟨i0, hi, hz0, hz1, hz2⟩ := info_parts Tryz.infoS
  have HZ2 := Lib.hid hz2; clear hz2
  have hnd := hd.ok.few
  have hll := ok.l1
  have hfu := ok.fu
  have CB : Hid (∀ W i, J.full + i ≤ J.log → Below w.heap.size w W → Calls Tryz.prog 66 #[.pointer (some ⟨a, 0, none⟩), .int .i64 ((i : Nat) : Int)] W fun e w' => e = .returned (.int .i64 (J.pos i)) ∧ w' = W.drew) :=
    fun W i h hW => behind_drew i (hj.below hW) ok hnd h
  have CR : Hid (∀ W i, Below w.heap.size w W → Calls Tryz.prog 29 #[.pointer (some ⟨p, 0, none⟩), .int .i64 ((J.pos i : Nat) : Int)] W fun e w' => e = .returned (.tuple #[.string (D.rdB (J.pos i)), .int .i64 0]) ∧ Below W.heap.size W w') := fun W i hW => by
    have := read_any (J.pos i : Int) hp (hd.below hW)
    rw [DevS.rd_live hde _ (by have := ok.pos_lt i; omega)] at this
    exact this
  have CL : Hid (∀ W, Below w.heap.size w W → Calls Tryz.prog 57 #[.pointer (some ⟨a, 0, none⟩)] W fun e w' => e = .returned (.int .i64 J.left) ∧ w' = W.drew) := fun W hW => left_drew (hj.below hW) ok hnd
  have HSZ : Hid (∀ i, (D.rdB (J.pos i)).size = 256) := fun i => hd.ok.rdB_size _ (by have := ok.pos_lt i; omega)
  have CK : Hid (∀ W v L, Below w.heap.size w W → L.length ≤ 1000 → (∀ x ∈ L, x.2.size ≤ maxLen) → SlW W v L → Calls Tryz.prog 55 #[.pointer (some ⟨a, 0, none⟩), v] W fun e w' => e = .returned (.int .i64 ((J.chk D.disk.length L : Nat) : Int)) ∧ Below W.heap.size W w') :=
    fun W v L hW h1 h2 h3 => jcheck_any (hj.below hW) (hd.below hW) ok h1 h2 h3
  have ca := hj.c0
  have c6 := hj.c6
  have hal := hj.lt
  have CB0 : Hid (∀ W, Below w.heap.size w W → Calls Tryz.prog 66 #[.pointer (some ⟨a, 0, none⟩), .int .i64 0] W fun e w' => e = .returned (.int .i64 (J.pos 0)) ∧ w' = W.drew) := fun W hW => CB.out W 0 (by omega) hW
  have CR0 : Hid (∀ W, Below w.heap.size w W → Calls Tryz.prog 29 #[.pointer (some ⟨p, 0, none⟩), .int .i64 ((J.pos 0 : Nat) : Int)] W fun e w' => e = .returned (.tuple #[.string (D.rdB (J.pos 0)), .int .i64 0]) ∧ Below W.heap.size W w') := fun W hW => CR.out W 0 hW
  have HKp : Hid (∀ W, Below w.heap.size w W → W.cell? ⟨a, 0, none⟩ = some (.pointer (some ⟨p, 0, none⟩))) := fun W hW => (hW.cell (p := ⟨a, 0, none⟩) hal).trans ca
  have HK6 : Hid (∀ W, Below w.heap.size w W → W.cell? ⟨a, 6, none⟩ = some (.int .u64 (J.next : Int))) := fun W hW => (hW.cell (p := ⟨a, 6, none⟩) hal).trans c6
  clear hj hd c6
  have HOK := Lib.hid ok; clear ok
  have HFr : Hid (J.frameOf D = if headB (D.rdB (J.pos 0)).data.toList = true ∧ nmAt (D.rdB (J.pos 0)).data.toList 12 + 1 ≤ J.left ∧ (unp (J.readK D (nmAt (D.rdB (J.pos 0)).data.toList 12))).2.2 = 0 ∧ (unp (J.readK D (nmAt (D.rdB (J.pos 0)).data.toList 12))).1 = J.next ∧ J.chk D.disk.length (unp (J.readK D (nmAt (D.rdB (J.pos 0)).data.toList 12))).2.1 = 0
      then some (unp (J.readK D (nmAt (D.rdB (J.pos 0)).data.toList 12))).2.1 else none) := rfl
  obtain ⟨HD0, hHD0⟩ : ∃ x, D.rdB (J.pos 0) = x := ⟨_, rfl⟩
  have CH : Hid (∀ W, Calls Tryz.prog 96 #[.string HD0] W fun e w' => e = .returned (.tuple #[.int .u64 (((hd HD0).1 : Nat) : Int), .int .i64 (((hd HD0).2.1 : Nat) : Int), .bool (hd HD0).2.2]) ∧ Below W.heap.size W w') := fun W => Fr.head_any HD0 W
  rw [hHD0] at HFr CR0
  obtain ⟨n, hn⟩ : ∃ n, nmAt HD0.data.toList 12 = n := ⟨_, rfl⟩
  rw [hn] at HFr
  cases hB : headB HD0.data.toList with
  | false =>
    have HR : Hid (J.frameOf D = none) := by show _ = _; rw [HFr.out, if_neg (by rw [hB]; simp)]
    rw [Fr.headB_false hB] at CH
    clear hB HFr hn hHD0
    go_enter Tryz.func81, Tryz.ntmps81
    go_wp2_with fail
    go_region_held3 (fun W => W.cell? ⟨a, 0, none⟩ = some (.pointer (some ⟨p, 0, none⟩)))
      (first | exact ca | exact HKp.out _ (by assumption))
      (first | (go_at_call 66; refine (CB0.out _ ?_).mono ?_; exact (Below.refl _ _).drew; rintro e w' ⟨rfl, rfl⟩)
             | (go_at_call 29; refine (CR0.out _ ?_).mono ?_; exact ((Below.refl _ _).drew).drew; rintro r w1 ⟨rfl, hb1'⟩; have hb1 : Below w.heap.size w w1 := Fr.below_predrew (Fr.below_predrew hb1'); clear hb1'))
    all_goals
      have HB1 := Lib.hid hb1
      clear hb1
      go_wp2_with fail
      refine (CH.out _).mono ?_
      rintro e w2 ⟨rfl, hb2⟩
      have HB2 := Lib.hid (HB1.out.trans (hb2.mono HB1.out.size)); clear hb2
      go_wp2
      go_ret2
      exact ⟨_, rfl, by rw [HR.out]; exact OwnW.nil _ _, HB2.out⟩
  | true =>
    rw [Fr.headB_true hB] at CH
    have hn48 : 1 ≤ n ∧ n ≤ 48 := by rw [← hn]; exact ⟨((Fr.headB_iff _).1 hB).2.2.2.1, ((Fr.headB_iff _).1 hB).2.2.2.2.1⟩
    simp only [hn] at CH
    generalize Fr.seqOf HD0.data.toList = sq0 at *
    have hlf : J.left = J.log - J.full := rfl
    by_cases hlt : J.left < n + 1
    · have HR : Hid (J.frameOf D = none) := by show _ = _; rw [HFr.out, if_neg (fun h => by omega)]
      have hlt' : (J.left : Int) < (n : Int) + 1 := by omega
      clear hB HFr hn hHD0 hlf
      go_enter Tryz.func81, Tryz.ntmps81
      go_wp2_with fail
      go_region_held3 (fun W => W.cell? ⟨a, 0, none⟩ = some (.pointer (some ⟨p, 0, none⟩)))
        (first | exact ca | exact HKp.out _ (by assumption))
        (first | (go_at_call 66; refine (CB0.out _ ?_).mono ?_; exact (Below.refl _ _).drew; rintro e w' ⟨rfl, rfl⟩)
               | (go_at_call 29; refine (CR0.out _ ?_).mono ?_; exact ((Below.refl _ _).drew).drew; rintro r w1 ⟨rfl, hb1'⟩; have hb1 : Below w.heap.size w w1 := Fr.below_predrew (Fr.below_predrew hb1'); clear hb1'))
      all_goals
        have HB1 := Lib.hid hb1
        clear hb1
        go_wp2_with fail
        refine (CH.out _).mono ?_
        rintro e w2 ⟨rfl, hb2⟩
        have HB2 := Lib.hid (HB1.out.trans (hb2.mono HB1.out.size)); clear hb2
        go_wp2_with fail
        refine (CL.out _ HB2.out).mono ?_
        rintro e w3 ⟨rfl, rfl⟩
        go_wp2
        go_ret2
        exact ⟨_, rfl, by rw [HR.out]; exact OwnW.nil _ _, HB2.out.drew⟩
    · have hlt' : ¬ (J.left : Int) < (n : Int) + 1 := by omega
      have hfull : J.full + n + 1 ≤ J.log := by omega
      clear hn hlf
      go_enter Tryz.func81, Tryz.ntmps81
      go_wp2_with fail
      go_region_held3 (fun W => W.cell? ⟨a, 0, none⟩ = some (.pointer (some ⟨p, 0, none⟩)))
        (first | exact ca | exact HKp.out _ (by assumption))
        (first | (go_at_call 66; refine (CB0.out _ ?_).mono ?_; exact (Below.refl _ _).drew; rintro e w' ⟨rfl, rfl⟩)
               | (go_at_call 29; refine (CR0.out _ ?_).mono ?_; exact ((Below.refl _ _).drew).drew; rintro r w1 ⟨rfl, hb1'⟩; have hb1 : Below w.heap.size w w1 := Fr.below_predrew (Fr.below_predrew hb1'); clear hb1'))
      all_goals
        have HB1 := Lib.hid hb1
        clear hb1
        go_wp2_with fail
        refine (CH.out _).mono ?_
        rintro e w2 ⟨rfl, hb2⟩
        have HB2 := Lib.hid (HB1.out.trans (hb2.mono HB1.out.size)); clear hb2
        go_wp2_with fail
        refine (CL.out _ HB2.out).mono ?_
        rintro e w3 ⟨rfl, rfl⟩
        have hbr2 := HB2.out.size
        go_wp2_with fail
        have hO0 : OwnS w.heap.size (w2.alloc (.cells #[.string HD0] 9)) (.slice (some ⟨w2.heap.size, 0, none⟩) 1 1) [HD0] := World.ownsRow_lit w2 #[.string HD0] 1 hbr2 (by unfold maxLen; omega) rfl
        have HO : Hid (OwnS w.heap.size (w2.alloc (.cells #[.string HD0] 9)).drew (.slice (some ⟨w2.heap.size, 0, none⟩) 1 1) (J.readK D 0)) := by
          have := hO0.below ((Below.refl _ _).drew)
          unfold JS.readK; rw [hHD0]; exact this
        clear hO0
        have HBa : Hid (Below w.heap.size w (w2.alloc (.cells #[.string HD0] 9)).drew) := (HB2.out.alloc hbr2 _).drew
        generalize (w2.alloc (.cells #[.string HD0] 9)).drew = w6 at *
        generalize (.slice (some ⟨w2.heap.size, 0, none⟩) 1 1 : Value) = v6 at *
        clear HB1 HB2 hbr2 CH CL
        go_loopw [9, 46] (fun fv i wr => ∃ k : Nat, k ≤ n ∧ i = .int .i64 k ∧ Hid (OwnS w.heap.size wr fv (J.readK D k)) ∧ Hid (Below w.heap.size w wr)) (fun _ i _ => n - (intOf i).toNat)
        case atStart => exact ⟨0, Nat.zero_le _, rfl, HO, HBa⟩
        case round =>
          clear HO HBa
          obtain ⟨k, hk, rfl, HO, HB⟩ := hrel
          have hbr := HB.out.size
          have car := HKp.out _ HB.out
          by_cases hlk : k < n
          · have hlk' : (k : Int) < (n : Int) := by omega
            have CBk : Hid (∀ W, Below w.heap.size w W → Calls Tryz.prog 66 #[.pointer (some ⟨a, 0, none⟩), .int .i64 (1 + (k : Int))] W fun e w' => e = .returned (.int .i64 (J.pos (k + 1))) ∧ w' = W.drew) := fun W hW => by
              have := CB.out W (k + 1) (by omega) hW
              rw [show (((k + 1 : Nat)) : Int) = 1 + (k : Int) by omega] at this
              exact this
            have CRk : Hid (∀ W, Below w.heap.size w W → Calls Tryz.prog 29 #[.pointer (some ⟨p, 0, none⟩), .int .i64 ((J.pos (k + 1) : Nat) : Int)] W fun e w' => e = .returned (.tuple #[.string (D.rdB (J.pos (k + 1))), .int .i64 0]) ∧ Below W.heap.size W w') := fun W hW => CR.out W (k + 1) hW
            have HSN := Lib.hid (readK_succ J D k)
            have hlen : (J.readK D k).length ≤ 49 := by rw [readK_len]; omega
            obtain ⟨M, hM⟩ : ∃ M, J.readK D k = M := ⟨_, rfl⟩
            rw [hM] at HO HSN hlen
            clear hM
            generalize D.rdB (J.pos (k + 1)) = pt at *
            generalize J.pos (k + 1) = pi at *
            have w1k : IntKind.i64.wrap (1 + (k : Int)) = 1 + (k : Int) := IntWalk.i64_in _ (by omega)
            go_wp2_with fail
            go_region_held3 (fun W => W.cell? ⟨a, 0, none⟩ = some (.pointer (some ⟨p, 0, none⟩)))
              (first | exact car | exact HKp.out _ (by assumption))
              (first | (go_at_call 66; refine (CBk.out _ ?_).mono ?_; exact HB.out.drew; rintro e w' ⟨rfl, rfl⟩)
                     | (go_at_call 29; refine (CRk.out _ ?_).mono ?_; exact (HB.out.drew).drew; rintro r w7 ⟨rfl, hb7'⟩; have hb7 : Below w.heap.size w w7 := HB.out.trans ((Fr.below_predrew (Fr.below_predrew hb7')).mono hbr); have HO7 := Lib.hid (HO.out.below (Fr.below_predrew (Fr.below_predrew hb7'))); clear hb7'))
            all_goals
              have HB7 := Lib.hid hb7
              clear hb7 HO
              have hbr7 := HB7.out.size
              go_wp2_with (at_builtin; go_loud (refine wpList_append_own _ rfl _ _ 60 rfl w.heap.size 9 i0 _ 1 16 Tryz.underlying60 hi hz0 hz1 HZ2.out rfl (by decide) _ _ _ rfl (HO7.out.alloc _) _ 1 1 [.string pt] rfl rfl (one_cell rfl) one_one ?c3 ?c4 ?c5 ?_))
              case c3 => unfold maxLen; omega
              case c4 => omega
              case c5 => simp; omega
              intro v1 w8 hown hgrow _
              have HO8 : Hid (OwnS w.heap.size w8 v1 (J.readK D (k + 1))) := by
                show OwnS _ _ _ _
                rw [HSN.out]; exact own_push hown
              have HB8 : Hid (Below w.heap.size w w8) := ((HB7.out.alloc hbr7 _).grown hgrow (by simp; omega) (fun q hq => (HO7.out.lt q hq).1))
              clear hown hgrow
              go_wp2
              go_roundw
              case rel => exact ⟨k + 1, by omega, by go_num, HO8, HB8⟩
              case measure => simp [intOf]; omega
          · have hkn : k = n := by omega
            subst hkn
            have hlk' : ¬ (k : Int) < (k : Int) := by omega
            have hcu : ∀ d ∈ J.readK D k, d.size = 256 := fun d hd => by
              unfold JS.readK at hd
              rcases List.mem_cons.1 hd with rfl | hd
              · exact HSZ.out 0
              · obtain ⟨i, _, rfl⟩ := List.mem_map.1 hd; exact HSZ.out (i + 1)
            have CU := Lib.hid (Fr.unpack_any (J.readK D k) u9 wr (by rw [readK_len]; omega) (fun d hd => by rw [hcu d hd]; unfold maxLen; omega) HO.out.sl)
            clear hcu
            have c6r := HK6.out _ HB.out
            obtain ⟨ao9, c9, hv9, _⟩ := HO.out.sl
            subst hv9
            go_wp2_with fail
            refine CU.out.mono ?_
            rintro e w7 ⟨u, rfl, hu7, hb7⟩
            have HB7 := Lib.hid (HB.out.trans (hb7.mono hbr))
            have HU7 := Lib.hid (hu7.mono hbr)
            clear hu7 hb7 CU c6r
            have c67 := HK6.out _ HB7.out
            have hF2 : J.frameOf D = if (unp (J.readK D k)).2.2 = 0 ∧ (unp (J.readK D k)).1 = J.next ∧ J.chk D.disk.length (unp (J.readK D k)).2.1 = 0 then some (unp (J.readK D k)).2.1 else none := by
              rw [HFr.out]
              by_cases hX : (unp (J.readK D k)).2.2 = 0 ∧ (unp (J.readK D k)).1 = J.next ∧ J.chk D.disk.length (unp (J.readK D k)).2.1 = 0
              · rw [if_pos hX, if_pos ⟨hB, by omega, hX⟩]
              · rw [if_neg hX, if_neg (fun h => hX h.2.2)]
            have HF2 := Lib.hid hF2; clear hF2 HFr
            have hws : (unp (J.readK D k)).2.1.length ≤ 1000 ∧ ∀ x ∈ (unp (J.readK D k)).2.1, x.2.size ≤ maxLen := by
              have h1 := unp_some (J.readK D k) (fun d hd => by
                unfold JS.readK at hd
                rcases List.mem_cons.1 hd with rfl | hd
                · exact HSZ.out 0
                · obtain ⟨i, _, rfl⟩ := List.mem_map.1 hd; exact HSZ.out (i + 1))
              rw [readK_len] at h1
              exact ⟨by omega, fun x hx => by rw [h1.2 x hx]; unfold maxLen; omega⟩
            have HC7 : Hid (∀ W, Below w7.heap.size w7 W → Calls Tryz.prog 55 #[.pointer (some ⟨a, 0, none⟩), u] W fun e w' => e = .returned (.int .i64 ((J.chk D.disk.length (unp (J.readK D k)).2.1 : Nat) : Int)) ∧ Below W.heap.size W w') :=
              fun W hW => CK.out W u _ (HB7.out.trans (hW.mono HB7.out.size)) hws.1 hws.2 (HU7.out.sl.below hW)
            clear hws CK
            have hn64 : (unp (J.readK D k)).1 < 18446744073709551616 := unp_seq _
            have hx64 := HOK.out.n64
            generalize unp (J.readK D k) = U at *
            obtain ⟨sq, ws, er⟩ := U
            simp only at HF2 HC7 HU7 hn64 ⊢
            generalize J.chk D.disk.length ws = ck at *
            obtain ⟨ao10, c10, hv10, _⟩ := HU7.out.sl
            subst hv10
            have HNil : Hid (∀ W, Below w.heap.size w W → OwnW w.heap.size W (.slice none 0 0) []) := fun W _ => OwnW.nil _ _
            by_cases h1 : er = 0
            · have h1' : (((er : Nat) : Int) != 0) = false := by simp [h1]
              by_cases h2 : sq = J.next
              · have h2' : (((sq : Nat) : Int) != (J.next : Int)) = false := by simp [h2]
                by_cases h3 : ck = 0
                · have h3' : (((ck : Nat) : Int) != 0) = false := by simp [h3]
                  rw [if_pos ⟨h1, h2, h3⟩] at HF2
                  clear h1 h2 h3
                  go_wp2_with fail
                  refine (HC7.out _ (Below.refl _ _)).mono ?_
                  rintro e w8 ⟨rfl, hb8⟩
                  have HB8 := Lib.hid (HB7.out.trans (hb8.mono HB7.out.size))
                  have HU8 := Lib.hid (HU7.out.below hb8)
                  clear hb8
                  go_wp2
                  go_ret2
                  exact ⟨_, rfl, by rw [HF2.out]; exact HU8.out, HB8.out⟩
                · have h3' : (((ck : Nat) : Int) != 0) = true := by simp [h3]
                  rw [if_neg (fun h => h3 h.2.2)] at HF2
                  clear h1 h2 h3
                  go_wp2_with fail
                  refine (HC7.out _ (Below.refl _ _)).mono ?_
                  rintro e w8 ⟨rfl, hb8⟩
                  have HB8 := Lib.hid (HB7.out.trans (hb8.mono HB7.out.size))
                  clear hb8
                  go_wp2
                  go_ret2
                  exact ⟨_, rfl, by rw [HF2.out]; exact OwnW.nil _ _, HB8.out⟩
              · have h2' : (((sq : Nat) : Int) != (J.next : Int)) = true := by simp; omega
                rw [if_neg (fun h => h2 h.2.1)] at HF2
                clear h1 h2
                go_wp2
                go_ret2
                exact ⟨_, rfl, by rw [HF2.out]; exact OwnW.nil _ _, HB7.out⟩
            · have h1' : (((er : Nat) : Int) != 0) = true := by simp [h1]
              rw [if_neg (fun h => h1 h.1)] at HF2
              clear h1
              go_wp2
              go_ret2
              exact ⟨_, rfl, by rw [HF2.out]; exact OwnW.nil _ _, HB7.out⟩
end
end Go.Proofs.YtepfcaopboenpaaGreat
/- What add answers and leaves behind: a frame is laid behind those that are there. -/
namespace Go.Proofs.YtepfcaopboenpaaGreat
open Go.RowKit
open Fr (SlW SlS WritesAt StrsAt OwnW flatI two_cells two_one own_pushW step_append_own)

section
variable {S S1 T : Nat → Prop} {w w1 w2 w' : World} {a p : Nat} {J J1 J2 : JS} {D D1 D2 : DevS} {v : Value} {top : ByteArray} {ds : List ByteArray}

/-- The writes of the first k blocks of a frame's data. -/
def JS.dataK (J : JS) (ds : List ByteArray) (k : Nat) : List (Int × ByteArray) := (List.range k).map fun i => (((J.pos (i + 1) : Nat) : Int), ds.getD i ByteArray.empty)
theorem dataK_succ (J : JS) (ds : List ByteArray) (k : Nat) : J.dataK ds (k + 1) = J.dataK ds k ++ [(((J.pos (k + 1) : Nat) : Int), ds.getD k ByteArray.empty)] := by
  unfold JS.dataK; rw [List.range_succ, List.map_append]; rfl
theorem dataK_len (J : JS) (ds : List ByteArray) (k : Nat) : (J.dataK ds k).length = k := by simp [JS.dataK]
theorem dataW_eq (J : JS) (ds : List ByteArray) : J.dataW ds = J.dataK ds ds.length ++ [(((J.pos (ds.length + 1) : Nat) : Int), noughts)] := rfl

set_option maxRecDepth 100000 in
set_option maxHeartbeats 2000000 in
theorem add_any (b off c : Nat) (hj : Jr 79 w a p J) (hd : Stands S w p D) (ha : ¬ S a) (ok : J.Ok D.disk.length) (hp : D.pend.length ≤ 800000) (hl : ds.length ≤ 48) (hf : J.full + ds.length + 1 ≤ J.log)
    (hb : b < w.heap.size) (hc : StrsAt w b off (top :: ds)) (hsb : ¬ S b) :
    Calls Tryz.prog 58 #[.pointer (some ⟨a, 0, none⟩), .slice (some ⟨b, off, none⟩) (ds.length + 1) c] w fun e w' => e = .returned (.int .i64 (J.addF D top ds).1) ∧ JLeaves 79 S w w' a p (J.addF D top ds).2.1 (J.addF D top ds).2.2 := by
  obtain ⟨i0, hi, hz0, hz1, hz2⟩ := info_parts Tryz.infoW
  have HZ2 := Lib.hid hz2; clear hz2
  have hnd := hd.ok.few
  have hll := ok.l1
  have hc0 : w.cell? ⟨b, off, none⟩ = some (.string top) := hc 0 (by simp)
  have HC : Hid (∀ k (h : k < ds.length), w.cell? ⟨b, off + (k + 1), none⟩ = some (.string (ds.getD k ByteArray.empty))) := by
    intro k hk
    have := hc (k + 1) (by simpa using hk)
    rw [this]; simp [hk]
  clear hc
  have HJ := Lib.hid hj; clear hj
  have HD := Lib.hid hd; clear hd
  have HA := Lib.hid ha; clear ha
  have HOK := Lib.hid ok; clear ok
  have HSB := Lib.hid hsb; clear hsb
  have CB : Hid (∀ W i, J.full + i ≤ J.log → Below w.heap.size w W → Calls Tryz.prog 66 #[.pointer (some ⟨a, 0, none⟩), .int .i64 ((i : Nat) : Int)] W fun e w' => e = .returned (.int .i64 (J.pos i)) ∧ w' = W.drew) :=
    fun W i h hW => behind_drew i (HJ.out.below hW) HOK.out hnd h
  obtain ⟨n, hn⟩ : ∃ n, ds.length = n := ⟨_, rfl⟩
  rw [hn] at hl hf HC ⊢
  have HN := Lib.hid hn; clear hn
  go_enter Tryz.func58, Tryz.ntmps58
  go_wp2_with fail
  go_loopw [5, 6] (fun wv i wr => ∃ k : Nat, k ≤ n ∧ i = .int .i64 ((k + 1 : Nat) : Int) ∧ Hid (OwnW w.heap.size wr wv (J.dataK ds k)) ∧ Hid (Below w.heap.size w wr)) (fun _ i _ => n + 1 - (intOf i).toNat)
  case atStart => exact ⟨0, Nat.zero_le _, rfl, OwnW.nil _ _, Below.refl _ _⟩
  case round =>
    obtain ⟨k, hk, rfl, HO, HB⟩ := hrel
    have hbr := HB.out.size
    by_cases hlt : k < n
    · have c1r := (HB.out.cell (p := ⟨b, off + (k + 1), none⟩) hb).trans (HC.out k hlt)
      have hlen : (J.dataK ds k).length ≤ 48 := by rw [dataK_len]; omega
      have HSN := Lib.hid (dataK_succ J ds k)
      have CB1 : Hid (∀ W, Below w.heap.size w W → Calls Tryz.prog 66 #[.pointer (some ⟨a, 0, none⟩), .int .i64 ((k + 1 : Nat) : Int)] W fun e w' => e = .returned (.int .i64 (J.pos (k + 1))) ∧ w' = W.drew) := fun W hW => CB.out W (k + 1) (by omega) hW
      obtain ⟨M, hM⟩ : ∃ M, J.dataK ds k = M := ⟨_, rfl⟩
      rw [hM] at HO HSN hlen
      clear hM
      generalize ds.getD k ByteArray.empty = pt at *
      generalize J.pos (k + 1) = pi at *
      obtain ⟨ao2, c2, hv, _⟩ := HO.out.sl
      subst hv
      have i1 : (k : Int) + 1 < (n : Int) + 1 := by omega
      have i0' : (0 : Int) ≤ (k : Int) + 1 := by omega
      go_wp2_with fail
      go_region_law (first
        | (refine step_append_own rfl (.tmp 15) (.tmp 24) 46 rfl w.heap.size 73 i0 (.agg #[.int .i64 0, .string ⟨#[]⟩]) 2 24 Tryz.underlying46 hi hz0 hz1 HZ2.out rfl (by omega) (.slice ao2 M.length c2) M.length (flatI M) (by kernel_rfl) ?own ⟨wr.heap.size, 0, none⟩ 1 1 [.int .i64 (pi : Int), .string pt] (by kernel_rfl) rfl (two_cells rfl) two_one (by unfold maxLen; omega) (by omega) ?base ?_
           case own => exact World.ownsRow.alloc (w := wr) HO.out _
           case base => simp; omega
           intro v1 w3 hown hgrow
           have HO3 := Lib.hid (own_pushW hown)
           have HB3 : Hid (Below w.heap.size w w3) := (((HB.out.drew).drew).alloc hbr _).grown hgrow (by simp; omega) (fun q hq => (HO.out.lt q hq).1)
           clear hown hgrow)
        | (go_simp; go_at_call 66; refine (CB1.out _ ?_).mono ?_; exact HB.out.drew; rintro e w1 ⟨rfl, rfl⟩))
      all_goals
        go_wp2
        go_roundw
        case rel => exact ⟨k + 1, by omega, by go_num, by show OwnW _ _ _ _; rw [HSN.out]; exact HO3.out, HB3⟩
        case measure => simp [intOf]; omega
    · have hkn : k = n := by omega
      subst hkn
      have i1 : ¬ (k : Int) + 1 < (k : Int) + 1 := by omega
      have CB1 : Hid (∀ W, Below w.heap.size w W → Calls Tryz.prog 66 #[.pointer (some ⟨a, 0, none⟩), .int .i64 ((k : Int) + 1)] W fun e w' => e = .returned (.int .i64 (J.pos (k + 1))) ∧ w' = W.drew) := fun W hW => CB.out W (k + 1) (by omega) hW
      have CB0 : Hid (∀ W, Below w.heap.size w W → Calls Tryz.prog 66 #[.pointer (some ⟨a, 0, none⟩), .int .i64 0] W fun e w' => e = .returned (.int .i64 (J.pos 0)) ∧ w' = W.drew) := fun W hW => CB.out W 0 (by omega) hW
      have hlen : (J.dataK ds k).length ≤ 48 := by rw [dataK_len]; omega
      have HDW : Hid (J.dataW ds = J.dataK ds k ++ [(((J.pos (k + 1) : Nat) : Int), noughts)]) := by show _ = _; rw [dataW_eq, HN.out]
      obtain ⟨ao2, c2, hv, _⟩ := HO.out.sl
      subst hv
      obtain ⟨M, hM⟩ : ∃ M, J.dataK ds k = M := ⟨_, rfl⟩
      rw [hM] at HO HDW hlen ⊢
      clear hM
      obtain ⟨pn, hpn⟩ : ∃ x, J.pos (k + 1) = x := ⟨_, rfl⟩
      rw [hpn] at HDW CB1
      clear hpn
      obtain ⟨NN, hNN⟩ : ∃ x, noughts = x := ⟨_, rfl⟩
      have CN : Hid (∀ W, Calls Tryz.prog 50 #[.int .i64 256] W fun e w' => e = .returned (.string NN) ∧ Below W.heap.size W w') := fun W => by rw [← hNN]; exact jnoughts_all W
      rw [hNN] at HDW
      clear hNN
      go_wp2_with fail
      refine (CB1.out _ HB.out).mono ?_
      rintro e w1 ⟨rfl, rfl⟩
      go_wp2_with fail
      refine (CN.out _).mono ?_
      rintro e w2 ⟨rfl, hb2⟩
      have HB2 : Hid (Below wr.heap.size wr w2) := Fr.below_predrew hb2
      clear hb2
      have hbr2 := HB2.out.size
      go_wp2_with (at_builtin; go_loud (refine wpList_append_own _ rfl _ _ 46 rfl w.heap.size 73 i0 _ 2 24 Tryz.underlying46 hi hz0 hz1 HZ2.out rfl (by decide) _ _ _ rfl ((HO.out.below HB2.out).alloc _) _ 1 1 [.int .i64 (pn : Int), .string NN] rfl rfl (two_cells rfl) two_one ?c3 ?c4 ?c5 ?_))
      case c3 => unfold maxLen; omega
      case c4 => omega
      case c5 => simp; omega
      intro v1 w3 hown hgrow _
      have hO3 := own_pushW hown
      have HB3 : Hid (Below w.heap.size w w3) := ((HB.out.trans (HB2.out.mono hbr)).alloc (by omega) _).grown hgrow (by simp; omega) (fun q hq => (HO.out.lt q hq).1)
      rw [← HDW.out] at hO3
      have HO3 := Lib.hid hO3
      clear hown hgrow hO3 HO HB2 HB CB1 CN
      have hSO : Outs S v1 := by
        intro g off' n' c' hv hg
        have h1 := (HO3.out.lt g (by rw [hv]; rfl)).1
        have h2 := HD.out.lt g hg
        omega
      have CS := Lib.hid (jsettle_any (L := J.dataW ds) (HJ.out.below HB3.out) (HD.out.below HB3.out) HA.out (by rw [HDW.out]; simp; omega) (by omega) HO3.out.sl hSO)
      have HLd : Hid ((D.stl (J.dataW ds)).2.pend.length ≤ 850000 ∧ (D.stl (J.dataW ds)).2.disk.length = D.disk.length) := by
        have := D.stl_len (J.dataW ds)
        refine ⟨?_, D.stl_disk _⟩
        rw [HDW.out, List.length_append, List.length_singleton] at this
        rw [HDW.out]; omega
      have HAd : Hid (J.addF D top ds = if (D.stl (J.dataW ds)).1 ≠ 0 then ((D.stl (J.dataW ds)).1, (D.stl (J.dataW ds)).2, J) else
          if ((D.stl (J.dataW ds)).2.stl [(((J.pos 0 : Nat) : Int), top)]).1 ≠ 0 then (((D.stl (J.dataW ds)).2.stl [(((J.pos 0 : Nat) : Int), top)]).1, ((D.stl (J.dataW ds)).2.stl [(((J.pos 0 : Nat) : Int), top)]).2, J) else
          (0, ((D.stl (J.dataW ds)).2.stl [(((J.pos 0 : Nat) : Int), top)]).2, J.grow (k + 1))) := by
        show J.addF D top ds = _
        unfold JS.addF
        rw [HN.out]
      generalize D.stl (J.dataW ds) = R1 at *
      obtain ⟨er1, D1⟩ := R1
      simp only at CS HLd HAd
      obtain ⟨ao3, c3, hv3, _⟩ := HO3.out.sl
      subst hv3
      clear HDW HO3 hSO
      go_wp2_with fail
      refine CS.out.mono ?_
      rintro e w4 ⟨rfl, hv4⟩
      have HV4 := Lib.hid (Leaves.from HB3.out hv4); clear hv4 CS
      by_cases he1 : er1 = 0
      · have he1' : (er1 != 0) = false := by simp [he1]
        rw [if_neg (by simpa using he1)] at HAd
        obtain ⟨S4, hS4, hs4, ho4⟩ := HV4.out
        have hna : ¬ S4 a := fun h => by rcases hS4 a h with h | h; exact HA.out h; have := HJ.out.lt; omega
        have hj4 := HJ.out.only ho4 HA.out
        have hok4 : J.Ok D1.disk.length := by rw [HLd.out.2]; exact HOK.out
        have hc4 : w4.cell? ⟨b, off, none⟩ = some (.string top) := (ho4.cell (p := ⟨b, off, none⟩) hb HSB.out).trans hc0
        have CB4 : Hid (∀ W, Below w4.heap.size w4 W → Calls Tryz.prog 66 #[.pointer (some ⟨a, 0, none⟩), .int .i64 0] W fun e w' => e = .returned (.int .i64 (J.pos 0)) ∧ w' = W.drew) := fun W hW =>
          behind_drew 0 (hj4.below hW) hok4 (by rw [HLd.out.2]; exact hnd) (by omega)
        obtain ⟨R2, hR2⟩ : ∃ R, D1.stl [(((J.pos 0 : Nat) : Int), top)] = R := ⟨_, rfl⟩
        rw [hR2] at HAd
        have CS4 : Hid (∀ W, Below w4.heap.size w4 W → Calls Tryz.prog 51 #[.pointer (some ⟨a, 0, none⟩), .slice (some ⟨W.heap.size, 0, none⟩) 1 1] (W.alloc (.cells #[.int .i64 ((J.pos 0 : Nat) : Int), .string top] 73)) fun e w' => e = .returned (.int .i64 R2.1) ∧ Leaves S4 w4 w' p R2.2) := by
          intro W hW
          rw [← hR2]
          exact (settle_one _ top (hj4.below hW) (hs4.below hW) hna (by have := HLd.out.1; omega)).mono fun e w' ⟨he, hl⟩ => ⟨he, Leaves.from hW hl⟩
        have HJ4 := Lib.hid hj4; have HS4 := Lib.hid hS4; have HSt4 := Lib.hid hs4; have HO4 := Lib.hid ho4; have HN4 := Lib.hid hna
        have HOK4 := Lib.hid hok4
        clear hj4 hS4 hs4 ho4 hna hok4
        have HD2 : Hid (R2.2.disk.length = D.disk.length) := by rw [← hR2]; show _ = _; rw [D1.stl_disk]; exact HLd.out.2
        clear hR2 hc0 CB CB0
        obtain ⟨p0, hp0⟩ : ∃ x, J.pos 0 = x := ⟨_, rfl⟩
        rw [hp0] at CB4 CS4
        clear hp0
        obtain ⟨er2, D2⟩ := R2
        simp only at HAd CS4 HD2
        have i2 : (0 : Int) < (k : Int) + 1 := by omega
        have hb4 : b < w4.heap.size := Nat.lt_of_lt_of_le hb HO4.out.size
        have HKB : Hid (∀ w' D', Leaves S4 w4 w' p D' → w'.cell? ⟨b, off, none⟩ = some (.string top)) := fun w' D' h => (h.only.cell (p := ⟨b, off, none⟩) hb4 (fun hs => by rcases HS4.out b hs with h | h; exact HSB.out h; omega)).trans hc4
        go_wp2_with fail
        go_region_held3 (fun W => W.cell? ⟨b, off, none⟩ = some (.string top))
          (first | exact hc4 | exact HKB.out _ _ (by assumption) | go_keep)
          (first | (go_at_call 66; refine (CB4.out _ ?_).mono ?_; exact (Below.refl _ _).drew; rintro e w' ⟨rfl, rfl⟩)
                 | (go_at_call 51; refine (CS4.out w4.drew.drew ?_).mono ?_; exact ((Below.refl _ _).drew).drew; rintro r w6 ⟨rfl, hv6⟩))
        have hj6 := HJ4.out.only hv6.only HN4.out
        by_cases he2 : er2 = 0
        · have he2' : (er2 != 0) = false := by simp [he2]
          rw [if_neg (by simpa using he2)] at HAd
          have CG := Lib.hid (grow_any (k + 1) hj6 (n := D2.disk.length) (by rw [HD2.out]; exact HOK.out) (by rw [HD2.out]; exact hnd) (by omega))
          obtain ⟨S6, hS6, hs6, ho6⟩ := hv6
          have hna6 : ¬ S6 a := fun h => by rcases hS6 a h with h | h; exact HN4.out h; have := HJ4.out.lt; omega
          have HS6 := Lib.hid hS6; have HSt6 := Lib.hid hs6; have HO6 := Lib.hid ho6; have HN6 := Lib.hid hna6
          clear hS6 hs6 ho6 hna6 hj6
          go_wp2_with fail
          refine CG.out.mono ?_
          rintro e w7 ⟨rfl, hj7, ho7, hz7⟩
          have HJ7 := Lib.hid hj7; have HO7 := Lib.hid ho7
          clear hj7 ho7 hz7 CG
          go_wp2
          go_ret
          refine ⟨by rw [HAd.out]; rfl, ?_⟩
          rw [HAd.out]
          exact JLeaves.next HS4.out (HO4.out.mono (fun _ _ h => .inl h)) ⟨S6, HS6.out, HSt6.out.kept HO7.out (fun k hk hka => HN6.out (hka ▸ hk)), HJ7.out, (HO6.out.mono (T := fun k => S4 k ∨ k = a) (fun _ _ h => .inl h)).trans HO7.out (fun _ _ h => .inr h)⟩
        · have he2' : (er2 != 0) = true := by simp [he2]
          rw [if_pos (by simpa using he2)] at HAd
          have HF : Hid (JLeaves 79 S w w6 a p D2 J) := JLeaves.next HS4.out (HO4.out.mono (fun _ _ h => .inl h)) (JLeaves.of hv6 HJ4.out HN4.out)
          clear hj6 hv6
          go_wp2
          go_ret
          exact ⟨by rw [HAd.out]; rfl, by rw [HAd.out]; exact HF.out⟩
      · have he1' : (er1 != 0) = true := by simp [he1]
        rw [if_pos (by simpa using he1)] at HAd
        have HF : Hid (JLeaves 79 S w w4 a p D1 J) := JLeaves.of HV4.out HJ.out HA.out
        go_wp2
        go_ret
        exact ⟨by rw [HAd.out]; rfl, by rw [HAd.out]; exact HF.out⟩
end
end Go.Proofs.YtepfcaopboenpaaGreat

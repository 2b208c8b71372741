/- What model (one act on the document's device) answers and leaves behind: the same as in plain lists, for every act. -/
import Derived.Test.YtlikbfdfaccekaaRef6
namespace Go.Proofs.Ytlikbfdfaccekaa
open Go.RowKit
section
variable {S : Nat → Prop} {w : World} {p : Nat} {D : DevS}
theorem RLeaves.behind {w1 w' : World} {D' : DevS} (hb : Below w.heap.size w w1) (h : RLeaves S w1 w' p D') : RLeaves S w w' p D' := by
  obtain ⟨S', h1, h2, h3⟩ := h
  refine ⟨S', fun k hk => ?_, h2, (Only.of_below S hb (Nat.le_refl _)).trans h3 (fun _ _ h => h)⟩
  rcases h1 k hk with h | h
  · exact .inl h
  · exact .inr (Nat.le_trans hb.size h)
theorem rfuse_st (n : Int) (hn : n ≤ 9223372036854775807) (d : RStands S w p D) :
    Calls Try.prog 35 #[.pointer (some ⟨p, 0, none⟩), .int .i64 n] w fun e w' => e = .returned (.tuple #[]) ∧ RStands S w' p (D.setFuse n) ∧ Only S w w' := by
  obtain ⟨q, lcap, pv, d⟩ := d
  exact (rfuse_any n hn d).mono fun e w' ⟨h1, h2, h3⟩ => ⟨h1, ⟨q, lcap, pv, h2⟩, h3⟩

set_option maxHeartbeats 2000000 in
theorem model_any (a : ActS) (hl : D.pend.length ≤ 1000000) (hs : a.data.size ≤ 600) (hk : a.keep.length ≤ 200) (h0 : -9223372036854775808 ≤ a.op ∧ a.op ≤ 9223372036854775807) (hn : a.n ≤ 9223372036854775807) (hv : Bools S w (.slice a.kao a.keep.length a.kcap) a.keep) (d : RStands S w p D) :
    Calls Try.prog 15 #[.pointer (some ⟨p, 0, none⟩), .agg #[.int .i64 a.op, .int .i64 a.at_, .int .i64 a.n, .slice a.kao a.keep.length a.kcap, .string a.data]] w fun e w' =>
      e = .returned (.tuple #[.string (D.does a).1.1, .int .i64 (D.does a).1.2]) ∧ RLeaves S w w' p (D.does a).2 := by
  obtain ⟨w1, hw1⟩ : ∃ w1, w.alloc (.cells #[.int .i64 a.op, .int .i64 a.at_, .int .i64 a.n, .slice a.kao a.keep.length a.kcap, .string a.data] 37) = w1 := ⟨_, rfl⟩
  have hbk : w1.heap[w.heap.size]? = some (.cells #[.int .i64 a.op, .int .i64 a.at_, .int .i64 a.n, .slice a.kao a.keep.length a.kcap, .string a.data] 37 (0, 0)) := by rw [← hw1, heap_alloc_new]
  have hb1 : Below w.heap.size w w1 := by rw [← hw1]; exact (Below.refl _ _).alloc (Nat.le_refl _) _
  have hbS : ¬ S w.heap.size := fun h => by have := d.lt _ h; omega
  have d1 : RStands S w1 p D := d.below hb1
  have hv1 : Bools S w1 (.slice a.kao a.keep.length a.kcap) a.keep := hv.kept (Only.of_below (fun _ => False) hb1 (Nat.le_refl _)) (fun _ h => h.elim)
  have k0 : w1.cell? ⟨w.heap.size, 0, none⟩ = some (.int .i64 a.op) := by rw [cell_at hbk]; rfl
  have k1 : w1.cell? ⟨w.heap.size, 1, none⟩ = some (.int .i64 a.at_) := by rw [cell_at hbk]; rfl
  have k2 : w1.cell? ⟨w.heap.size, 2, none⟩ = some (.int .i64 a.n) := by rw [cell_at hbk]; rfl
  have k3 : w1.cell? ⟨w.heap.size, 3, none⟩ = some (.slice a.kao a.keep.length a.kcap) := by rw [cell_at hbk]; rfl
  have k4 : w1.cell? ⟨w.heap.size, 4, none⟩ = some (.string a.data) := by rw [cell_at hbk]; rfl
  have cP := pick_any a.op 8 w1 h0 (by omega)
  have hp := pickI_lt a.op 8 (by omega)
  have HP := Lib.hid cP
  have HB1 := Lib.hid hb1; have HV1 := Lib.hid hv1; have HD1 := Lib.hid d1; have HW1 := Lib.hid hw1; have HBS := Lib.hid hbS
  have HDo : Hid (D.does a = if pickI a.op 8 = 4 then (D.rd a.at_, D) else if pickI a.op 8 = 5 then ((ByteArray.empty, D.fl.1), D.fl.2) else if pickI a.op 8 = 6 then ((ByteArray.empty, 0), D.setFuse a.n)
    else if pickI a.op 8 = 7 then ((ByteArray.empty, 0), D.crash a.keep a.at_ a.n) else ((ByteArray.empty, (D.wr a.at_ a.text).1), (D.wr a.at_ a.text).2)) := rfl
  clear cP hb1 hv1 d1 hv d hbk hw1 hbS
  generalize pickI a.op 8 = o at *
  by_cases o4 : o = 4
  · subst o4
    have e : D.does a = (D.rd a.at_, D) := by rw [HDo.out, if_pos rfl]
    rw [e]
    have C := Lib.hid (rread_any a.at_ hl HD1.out)
    clear e HDo
    go_enter Try.func15, Try.ntmps15
    go_wp2_with fail
    rw [HW1.out]
    refine HP.out.mono ?_
    rintro e w1' ⟨rfl, rfl⟩
    go_wp2_with fail
    refine C.out.mono ?_
    rintro e w2 ⟨rfl, rfl⟩
    go_wp2
    go_ret2
    exact ⟨rfl, .behind HB1.out (.mk HD1.out (Only.refl _ _))⟩
  · by_cases o5 : o = 5
    · subst o5
      have e : D.does a = ((ByteArray.empty, D.fl.1), D.fl.2) := by rw [HDo.out, if_neg (by omega), if_pos rfl]
      rw [e]
      have C := Lib.hid (rflush_any hl HD1.out)
      clear e HDo o4
      go_enter Try.func15, Try.ntmps15
      go_wp2_with fail
      rw [HW1.out]
      refine HP.out.mono ?_
      rintro e w1' ⟨rfl, rfl⟩
      go_wp2_with fail
      refine C.out.mono ?_
      rintro e w2 ⟨rfl, hd, ho⟩
      have HD2 := Lib.hid hd; have HO := Lib.hid ho; clear hd ho
      go_wp2
      go_ret2
      exact ⟨rfl, .behind HB1.out (.mk HD2.out HO.out)⟩
    · by_cases o6 : o = 6
      · subst o6
        have e : D.does a = ((ByteArray.empty, 0), D.setFuse a.n) := by rw [HDo.out, if_neg (by omega), if_neg (by omega), if_pos rfl]
        rw [e]
        have C := Lib.hid (rfuse_st a.n hn HD1.out)
        clear e HDo o4 o5
        go_enter Try.func15, Try.ntmps15
        go_wp2_with fail
        rw [HW1.out]
        refine HP.out.mono ?_
        rintro e w1' ⟨rfl, rfl⟩
        go_wp2_with fail
        refine C.out.mono ?_
        rintro e w2 ⟨rfl, hd, ho⟩
        have HD2 := Lib.hid hd; have HO := Lib.hid ho; clear hd ho
        go_wp2
        go_ret2
        exact ⟨rfl, .behind HB1.out (.mk HD2.out HO.out)⟩
      · by_cases o7 : o = 7
        · subst o7
          have e : D.does a = ((ByteArray.empty, 0), D.crash a.keep a.at_ a.n) := by rw [HDo.out, if_neg (by omega), if_neg (by omega), if_neg (by omega), if_pos rfl]
          rw [e]
          have C := Lib.hid (rcrash_any a.keep a.at_ a.n _ hl (by omega) HD1.out HV1.out)
          clear e HDo o4 o5 o6
          go_enter Try.func15, Try.ntmps15
          go_wp2_with fail
          rw [HW1.out]
          refine HP.out.mono ?_
          rintro e w1' ⟨rfl, rfl⟩
          go_wp2_with fail
          refine C.out.mono ?_
          rintro e w2 ⟨rfl, hd, ho⟩
          have HD2 := Lib.hid hd; have HO := Lib.hid ho; clear hd ho
          go_wp2
          go_ret2
          exact ⟨rfl, .behind HB1.out (.mk HD2.out HO.out)⟩
        · have e : D.does a = ((ByteArray.empty, (D.wr a.at_ a.text).1), (D.wr a.at_ a.text).2) := by rw [HDo.out, if_neg (by omega), if_neg (by omega), if_neg (by omega), if_neg (by omega)]
          rw [e]
          have b4 : (o == 4) = false := by simpa using o4
          have b5 : (o == 5) = false := by simpa using o5
          have b6 : (o == 6) = false := by simpa using o6
          have b7 : (o == 7) = false := by simpa using o7
          have HDA : Hid (∀ W, Calls Try.prog 29 #[.agg #[.int .i64 a.op, .int .i64 a.at_, .int .i64 a.n, .slice a.kao a.keep.length a.kcap, .string a.data]] W fun e w' => e = .returned (.string a.text) ∧ Below W.heap.size W w') := fun W => data_act a W hs
          clear e HDo o4 o5 o6 o7 hp
          obtain ⟨b, hb⟩ : ∃ b, w.heap.size = b := ⟨_, rfl⟩
          rw [hb] at k0 k1 k2 k3 k4 HBS
          have HE := Lib.hid hb
          go_enter Try.func15, Try.ntmps15
          go_wp2_with fail
          rw [HW1.out]
          refine HP.out.mono ?_
          rintro e w1' ⟨rfl, rfl⟩
          clear hb
          go_wp2_with fail
          go_region_held3 (fun W => W.cell? ⟨b, 0, none⟩ = some (.int .i64 a.op) ∧ W.cell? ⟨b, 1, none⟩ = some (.int .i64 a.at_) ∧ W.cell? ⟨b, 2, none⟩ = some (.int .i64 a.n) ∧ W.cell? ⟨b, 3, none⟩ = some (.slice a.kao a.keep.length a.kcap) ∧ W.cell? ⟨b, 4, none⟩ = some (.string a.data))
            (first | exact ⟨k0, k1, k2, k3, k4⟩ | exact held5 (by assumption) (Only.of_below (fun _ => False) (by assumption) (Nat.le_refl _)) (fun h => h) | exact held5 (by assumption) HLV.out HBS.out)
            (first
              | (go_at_call 29; refine (HDA.out _).mono ?_; rintro e w2 ⟨rfl, hb2⟩; have HD2 := Lib.hid ((HD1.out.below (Below.refl _ _).drew).below hb2); have HB2 := Lib.hid hb2)
              | (go_at_call 37; refine (rwrite_any a.at_ a.text hl HD2.out).mono ?_; rintro e w3 ⟨rfl, hlv⟩; obtain ⟨S', hS', hst, hov⟩ := hlv; have HLV := Lib.hid hov; have HST := Lib.hid hst; have HSS := Lib.hid hS'; clear hov hst hS'))
          go_wp2
          go_ret2
          exact ⟨rfl, .behind (HB1.out.drew.trans (HB2.out.mono HB1.out.size)) ⟨S', HSS.out, HST.out, HLV.out⟩⟩

end
end Go.Proofs.Ytlikbfdfaccekaa

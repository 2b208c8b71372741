/- What whole answers: writes of whole blocks, as many as may be. -/
import Derived.Test.YtkailodeojbnhaaFTexts
import Derived.Test.YtkailodeojbnhaaFTake
import Derived.Deep.RegionLaw
namespace Go.Proofs.Ytkailodeojbnhaa
open Go.RowKit

section
variable {P : Program}
theorem step_append_own {ops : Array Oper} {o : Oper} {a : Act} {w : World} {K : Act → World → Prop} {Q : Exit → Act → World → Prop} {E : Prop} (hgd : o.guard = none) (s x : Operand) (t : TypeId)
    (ho : o.op = .call { callee := .builtin .append, args := #[s, x], argTypes := #[t, t] })
    (base : Nat) (e : TypeId) (i : TypeInfo) (z : Value) (size bytes : Nat) (ht : P.underlying t = some (.slice e)) (hi : P.info? e = some i) (hz : i.zero = some z)
    (hsize : i.size = size) (hby : i.bytes = bytes) (hzs : z.cells.size = size) (hsz : 0 < size)
    (v : Value) (n : Nat) (xs : List Value) (hs : a.eval s = v) (hown : w.ownsRow base e size v n xs)
    (ad : Addr) (m c : Nat) (news : List Value) (hx : a.eval x = .slice (some ad) m c) (hl : news.length = m * size) (hnews : ∀ j u, news[j]? = some u → w.cell? (ad.add j) = some u) (h1 : ∀ u ∈ news, u.oneCell' = true)
    (h63 : n + m ≤ maxLen) (hbytes : (n + m) * bytes ≤ 140737488355328) (hbase : base ≤ w.heap.size)
    (h : ∀ v' w', w'.ownsRow base e size v' (n + m) (xs ++ news) → w.grownBy w' v.ownBlock → K (a.put o.dst v') w') :
    if Region.wanted o (yielded ops a.tmps) = true then Oper.wp P o a w K Q else E := by
  have hw : Region.wanted o (yielded ops a.tmps) = true := by simp [Region.wanted, hgd]
  rw [if_pos hw]
  exact wp_append_own w s x t ho base e i z size bytes ht hi hz hsize hby hzs hsz v n xs hs hown ad m c news hx hl hnews h1 h63 hbytes hbase (fun v' w' h2 h3 _ => h v' w' h2 h3)
end

def wholeL (L : List (Int × ByteArray)) : List (Int × ByteArray) := (L.take 48).map fun x => (pickI x.1 4096, blockB x.2)
theorem wholeL_len (L : List (Int × ByteArray)) : (wholeL L).length = min 48 L.length := by simp [wholeL]
theorem wholeL_ok (L : List (Int × ByteArray)) : ∀ x ∈ wholeL L, WrOk x := by
  intro x hx
  obtain ⟨y, _, rfl⟩ := List.mem_map.1 hx
  have := pickI_lt y.1 4096 (by omega)
  exact ⟨this.1, this.2, blockB_size _⟩
theorem whole_snoc (L : List (Int × ByteArray)) (k : Nat) (h : k < L.length) : (L.take (k + 1)).map (fun x => (pickI x.1 4096, blockB x.2)) = (L.take k).map (fun x => (pickI x.1 4096, blockB x.2)) ++ [(pickI L[k].1 4096, blockB L[k].2)] := by
  rw [List.take_succ_eq_append_getElem h, List.map_append]; rfl

set_option maxRecDepth 100000 in
set_option maxHeartbeats 4000000 in
theorem whole_any (L : List (Int × ByteArray)) (v : Value) (w : World) (hl : L.length ≤ 60) (hs : ∀ x ∈ L, x.2.size ≤ 600 ∧ -9223372036854775808 ≤ x.1 ∧ x.1 ≤ 9223372036854775807) (h : SlW w v L) :
    Calls Try.prog 14 #[v] w fun e w' => ∃ u, e = .returned u ∧ OwnW w.heap.size w' u (wholeL L) ∧ Below w.heap.size w w' := by
  obtain ⟨i0, hi, hz0, hz1, hz2⟩ := info_parts Try.infoW
  have HZ2 := Lib.hid hz2; clear hz2
  obtain ⟨ao, c, rfl, hcap, hc⟩ := h
  have HC : Hid (∀ k (hk : k < L.length), ∃ b off, ao = some ⟨b, off, none⟩ ∧ b < w.heap.size ∧ w.cell? ⟨b, off + k * 2, none⟩ = some (.int .i64 L[k].1) ∧ w.cell? ⟨b, off + k * 2 + 1, none⟩ = some (.string L[k].2)) := by
    intro k hk
    rcases hc with rfl | ⟨b, off, e, hb, hw⟩
    · simp at hk
    · exact ⟨b, off, e, hb, hw k hk⟩
  clear hc hcap
  have HS := Lib.hid hs; clear hs
  obtain ⟨n, hn⟩ : ∃ n, L.length = n := ⟨_, rfl⟩
  rw [hn] at hl ⊢
  have HN := Lib.hid hn; clear hn
  go_enter Try.func14, Try.ntmps14
  go_wp2_with fail
  go_loopw [3, 4] (fun wv i wr => ∃ k : Nat, k ≤ n ∧ k ≤ 48 ∧ i = .int .i64 k ∧ Hid (OwnW w.heap.size wr wv ((L.take k).map (fun x => (pickI x.1 4096, blockB x.2)))) ∧ Hid (Below w.heap.size w wr)) (fun _ i _ => n - (intOf i).toNat)
  case atStart => exact ⟨0, Nat.zero_le _, Nat.zero_le _, rfl, OwnW.nil _ _, Below.refl _ _⟩
  case round =>
    obtain ⟨k, hk, hk48, rfl, HO, HB⟩ := hrel
    have hbr := HB.out.size
    by_cases hlt : k < n
    · by_cases hl2 : k < 48
      · have hkL : k < L.length := by rw [HN.out]; exact hlt
        obtain ⟨b, off, rfl, hb, c0, c1⟩ := HC.out k hkL
        have hb2 : b < wr.heap.size := by omega
        have c0r := (HB.out.cell (p := ⟨b, off + k * 2, none⟩) hb).trans c0
        have c1r := (HB.out.cell (p := ⟨b, off + k * 2 + 1, none⟩) hb).trans c1
        clear c0 c1
        obtain ⟨s0, s1, s2⟩ := HS.out L[k] (List.getElem_mem hkL)
        have HSN := Lib.hid (whole_snoc L k hkL)
        have hlen : ((L.take k).map (fun x => (pickI x.1 4096, blockB x.2))).length ≤ 48 := by simp; omega
        obtain ⟨M, hM⟩ : ∃ M, (L.take k).map (fun x => (pickI x.1 4096, blockB x.2)) = M := ⟨_, rfl⟩
        rw [hM] at HO HSN hlen
        clear hM
        generalize L[k] = p at *
        obtain ⟨pb, pd⟩ := p
        simp only at c0r c1r s0 s1 s2 HSN
        have CP : Hid (∀ W, Calls Try.prog 15 #[.int .i64 pb, .int .i64 4096] W fun e w' => e = .returned (.int .i64 (pickI pb 4096)) ∧ W = w') := fun W => pick_any pb 4096 W ⟨s1, s2⟩ (by omega)
        have CB : Hid (∀ W, Calls Try.prog 20 #[.string pd] W fun e w' => e = .returned (.string (blockB pd)) ∧ Below W.heap.size W w') := fun W => block_any pd W (by unfold maxLen; omega)
        generalize pickI pb 4096 = pi at *
        generalize blockB pd = pt at *
        obtain ⟨ao2, c2, hv, _⟩ := HO.out.sl
        subst hv
        have i1 : (k : Int) < (n : Int) := by omega
        have i2 : (k : Int) < 48 := by omega
        go_wp2_with fail
        go_region_law (first
          | (refine step_append_own rfl (.tmp 15) (.tmp 29) 23 rfl w.heap.size 45 i0 (.agg #[.int .i64 0, .string ⟨#[]⟩]) 2 24 Try.underlying23 hi hz0 hz1 HZ2.out rfl (by omega) (.slice ao2 M.length c2) M.length (flatI M) (by kernel_rfl) ?own ⟨w2.heap.size, 0, none⟩ 1 1 [.int .i64 pi, .string pt] (by kernel_rfl) rfl (two_cells rfl) two_one (by unfold maxLen; omega) (by omega) ?base ?_
             case own => exact (HO.out.below HB2.out).alloc _
             case base => have := HB2.out.size; simp; omega
             intro v1 w3 hown hgrow
             have HO3 := Lib.hid (own_pushW hown)
             have HB3 : Hid (Below w.heap.size w w3) := ((HB.out.trans (HB2.out.mono hbr)).alloc (by have := HB2.out.size; omega) _).grown hgrow (by have := HB2.out.size; simp; omega) (fun q hq => (HO.out.lt q hq).1)
             clear hown hgrow)
          | (go_simp; go_at_call 15; refine (CP.out _).mono ?_; rintro e w1 ⟨rfl, rfl⟩)
          | (go_simp; go_at_call 20; refine (CB.out _).mono ?_; rintro e w2 ⟨rfl, hb2'⟩; have HB2 := Lib.hid (below_predrew hb2'); have c0s := (HB2.out.cell (p := ⟨b, off + k * 2, none⟩) hb2).trans c0r; have c1s := (HB2.out.cell (p := ⟨b, off + k * 2 + 1, none⟩) hb2).trans c1r; clear hb2'))
        all_goals
          go_wp2
          go_roundw
          case rel => exact ⟨k + 1, by omega, by omega, by go_num, by show OwnW _ _ _ _; rw [HSN.out]; exact HO3.out, HB3⟩
          case measure => simp [intOf]; omega
      · have HF : Hid (OwnW w.heap.size wr u3 (wholeL L)) := by
          have := HO.out
          have e : k = 48 := by omega
          rw [e] at this
          exact this
        have i1 : (k : Int) < (n : Int) := by omega
        have i2 : ¬ (k : Int) < 48 := by omega
        clear HO
        go_wp2
        go_ret
        exact ⟨_, rfl, HF.out, HB.out⟩
    · have HF : Hid (OwnW w.heap.size wr u3 (wholeL L)) := by
        have := HO.out
        have e : L.take k = L.take 48 := by rw [List.take_of_length_le (by rw [HN.out]; omega), List.take_of_length_le (by rw [HN.out]; omega)]
        rw [e] at this
        exact this
      have i1 : ¬ (k : Int) < (n : Int) := by omega
      clear HO
      go_wp2
      go_ret
      exact ⟨_, rfl, HF.out, HB.out⟩
end Go.Proofs.Ytkailodeojbnhaa

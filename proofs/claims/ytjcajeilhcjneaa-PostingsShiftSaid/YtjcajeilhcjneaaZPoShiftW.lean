/- PostingsShift over the contracts. -/
import Derived.Test.YtjcajeilhcjneaaZPrFrom
import Derived.Deep.RegionLaw

set_option maxRecDepth 100000
namespace Go.Proofs.Ytjcajeilhcjneaa.Po
open Go.RowKit Go.Shelf
open Fr (bs)
section
variable {P : Program}
theorem step_append_where {ops : Array Oper} {o : Oper} {a : Act} {w : World} {K : Act -> World -> Prop} {Q : Exit -> Act -> World -> Prop} {E : Prop} (hgd : o.guard = none) (s x : Operand) (t : TypeId)
  (ho : o.op = .call { callee := .builtin .append, args := #[s, x], argTypes := #[t, t] })
  (base : Nat) (e : TypeId) (i : TypeInfo) (z : Value) (size bytes : Nat) (ht : P.underlying t = some (.slice e)) (hi : P.info? e = some i) (hz : i.zero = some z)
  (hsize : i.size = size) (hby : i.bytes = bytes) (hzs : z.cells.size = size) (hsz : 0 < size)
  (v : Value) (n : Nat) (xs : List Value) (hs : a.eval s = v) (hown : w.ownsRow base e size v n xs)
  (ad : Addr) (m c : Nat) (news : List Value) (hx : a.eval x = .slice (some ad) m c) (hl : news.length = m * size) (hnews : ∀ j u, news[j]? = some u -> w.cell? (ad.add j) = some u) (h1 : ∀ u ∈ news, u.oneCell' = true)
  (h63 : n + m <= maxLen) (hbytes : (n + m) * bytes <= 140737488355328) (hbase : base <= w.heap.size)
  (h : ∀ v' w', w'.ownsRow base e size v' (n + m) (xs ++ news) -> w.grownBy w' v.ownBlock -> (∀ k, v'.ownBlock = some k -> v.ownBlock = some k \/ w.heap.size <= k) -> K (a.put o.dst v') w') :
  if Region.wanted o (yielded ops a.tmps) = true then Oper.wp P o a w K Q else E := by
 have hw : Region.wanted o (yielded ops a.tmps) = true := by simp [Region.wanted, hgd]
 rw [if_pos hw]
 obtain ⟨v', w', hr, h2, h3, h4⟩ := run_append_where (P := P) w base t o.type e i z size bytes ht hi hz hsize hby hzs hsz v n xs hown ad m c news hl hnews h1 h63 hbytes hbase
 unfold Oper.wp execOp
 simp only [ho, resolve, invoke, builtin, Sem.run_bind, Sem.run_pure, Result.andThen_ok, List.map_toArray, List.map_cons, List.map_nil, hs, hx, hr]
 exact h v' w' h2 h3 h4
end
set_option maxHeartbeats 8000000 in
theorem poshift_walk (v : Value) (L : List Pg) (n : Int) (w : World) (hv : SlP w v L) (hl : L.length <= maxLen) (hp : ∀ p ∈ L, p.pos.length <= maxLen) (hn : -9223372036854775808 <= n /\ n <= 9223372036854775807) :
  Calls Try.prog 7 #[v, .int .i64 n] w fun e w' => e = .returned (.bool true) /\ Below w.heap.size w w' := by
 obtain ⟨i1, hj, hy0, hy1, hy2⟩ := info_parts infoPo
 have HY2 := Lib.hid hy2; clear hy2
 have CS := Lib.hid (shown12_any w)
 have CM := Lib.hid (fun W (hW : Below w.heap.size w W) => small_any L v W (hv.below hW) hp hl)
 have CR := Lib.hid (fun W (hW : Below w.heap.size w W) => pright_any L v W (hv.below hW) hl hp)
 have HN : Hid (∀ {W W' : World}, Below w.heap.size w W -> Below W.heap.size W W' -> Below w.heap.size w W') := fun h1 h2 => h1.trans (h2.mono h1.size)
 by_cases hgo : RightG L /\ smallB L = true
 ·obtain ⟨hR, hsm⟩ := hgo
  have h5 := right_len hR
  have P1 := Lib.hid (fun W => pick_any n 500 W hn (by omega))
  obtain ⟨k, hk⟩ : ∃ k, pickI n 500 = k := ⟨_, rfl⟩
  have hki : 0 <= k /\ k < 500 := by rw [<- hk]; exact pickI_lt _ _ (by omega)
  rw [hk] at P1
  clear hk hn
  have hpS : ∀ p ∈ shiftG L k, p.pos.length <= maxLen := fun p hp' => by
   obtain ⟨q, hq, rfl⟩ := List.mem_map.1 hp'
   exact hp q hq
  have CR2 := Lib.hid (fun u W (h : SlP W u (shiftG L k)) => pright_any (shiftG L k) u W h (by rw [shift_len]; exact hl) hpS)
  have CP2 := Lib.hid (fun u W (h : SlP W u (shiftG L k)) => ppack_any (shiftG L k) u W h (by rw [shift_len]; omega) hpS)
  have CP1 := Lib.hid (fun W (hW : Below w.heap.size w W) => ppack_any L v W (hv.below hW) (by omega) hp)
  rw [if_pos hR] at CP1
  have HRt := Lib.hid hR
  have HD := Lib.hid (fun (i : Nat) (h : i < L.length) => doc_in hR h)
  rw [decide_eq_true hR] at CR
  rw [hsm] at CM
  obtain ⟨ao0, c0, hve, -, hc0⟩ := hv
  subst hve
  have HC := Lib.hid hc0
  clear hR hsm hp hl hc0 hpS
  go_enter Try.func7, Try.ntmps7
  go_wp2_with fail
  refine CS.out.mono ?_
  rintro e w1 ⟨rfl, hb1⟩
  have H1 := Lib.hid hb1
  clear hb1
  go_wp2_with fail
  refine (CR.out _ H1.out).mono ?_
  rintro e w2 ⟨rfl, hb2⟩
  have H2 := Lib.hid (HN.out H1.out hb2)
  clear hb2
  go_wp2_with fail
  refine (CM.out _ H2.out).mono ?_
  rintro e w3 ⟨rfl, hb3⟩
  have H3 := Lib.hid (HN.out H2.out hb3)
  clear hb3
  go_wp2_with fail
  refine (P1.out _).mono ?_
  rintro e w3' ⟨rfl, rfl⟩
  go_wp2_with fail
  go_loopw [9, 10] (fun ov iv wr => ∃ (i : Nat) (M : List Pg), iv = .int .i64 (i : Int) /\ i <= L.length /\ Hid (M = shiftG (L.take i) k) /\ Hid (M.length = i) /\ Hid (IOwn w w3.heap.size wr ov M) /\ Hid (Below w3.heap.size w3 wr)) (fun _ iv _ => L.length - (intOf iv).toNat)
  case atStart => exact ⟨0, [], rfl, Nat.zero_le _, rfl, rfl, IOwn.nil _ _ _, Below.refl _ _⟩
  case round =>
   obtain ⟨i, M, rfl, hiL, HM, HMl, HW, HB⟩ := hrel
   by_cases hlt : i < L.length
   ·have hiz : (i : Int) < (L.length : Int) := by omega
    obtain ⟨g, off, ve, rfl, hgs, p0, p1, hty⟩ := HC.out i hlt
    have HTy := Lib.hid hty
    have HDi := HD.out i hlt
    have HSn := Lib.hid (shift_snoc hlt k)
    obtain ⟨p, hpe⟩ : ∃ p, L[i] = p := ⟨_, rfl⟩
    rw [hpe] at p0 hty HTy HDi HSn
    obtain ⟨d, hdd⟩ : ∃ d, p.doc = d := ⟨_, rfl⟩
    rw [hdd] at p0 HDi HSn
    obtain ⟨va, vp, vc, rfl⟩ : ∃ va vp vc, ve = .slice va vp vc := by
     obtain ⟨ao, c, hve, _⟩ := hty
     exact ⟨_, _, _, hve⟩
    have x0 := ((H3.out.trans (HB.out.mono H3.out.size)).cell (p := ⟨g, _, none⟩) hgs).trans p0
    have x1 := ((H3.out.trans (HB.out.mono H3.out.size)).cell (p := ⟨g, _, none⟩) hgs).trans p1
    have hwd : IntKind.i64.wrap (d + k) = d + k := IntWalk.i64_in _ (by omega)
    have h3 : 0 <= (i : Int) := by omega
    have h4 : (i : Int).toNat = i := rfl
    obtain ⟨vs, hvl, hrow, hvs⟩ := HW.out
    have HRow := Lib.hid hrow
    have HVs := Lib.hid hvs
    have HVl := Lib.hid hvl
    obtain ⟨ao9, c9, rfl, -⟩ := HW.out.sl (H3.out.trans (HB.out.mono H3.out.size))
    have HM6 : Hid (M ++ [⟨d + k, p.pos⟩] = shiftG (L.take (i + 1)) k) := by show _ = _; rw [HSn.out, <- HM.out]
    clear hty hpe hdd hgs p0 p1 hrow hvs
    go_wp2_with fail
    go_region_law (first
     | (refine step_append_where rfl (.tmp 41) (.tmp 55) 22 rfl w3.heap.size 37 i1 _ 2 32 Try.underlying22 hj hy0 hy1 HY2.out rfl (by decide) (.slice ao9 M.length c9) M.length (flatV M vs) (by kernel_rfl) ((HRow.out.alloc (.cells #[.int .i64 (d + k), .slice va vp vc] 37)).drew) ⟨wr.heap.size, 0, none⟩ 1 1 [.int .i64 (d + k), .slice va vp vc] (by kernel_rfl) rfl ?news ?one (by have := HMl.out; unfold maxLen; omega) (by have := HMl.out; omega) ?base ?_
        case news => exact two_cellP (w := wr) rfl
        case one => exact fun u hu => by (simp only [List.mem_cons, List.not_mem_nil, or_false] at hu; rcases hu with rfl | rfl <;> first | rfl | exact rfl)
        case base => have := HB.out.size; simp; omega
        intro v7 w7 hown hgrow hwh)
     | (trace_state; fail))
    all_goals
     have HW7 : Hid (IOwn w w3.heap.size w7 v7 (M ++ [⟨d + k, p.pos⟩])) := IOwn.app HVl.out HVs.out HTy.out hown
     have HMl7 : Hid ((M ++ [(⟨d + k, p.pos⟩ : Pg)]).length = i + 1) := by show _ = _; rw [List.length_append, HMl.out]; rfl
     have HB7 : Hid (Below w3.heap.size w3 w7) := ((HB.out.alloc HB.out.size _).drew).grown hgrow (by have := HB.out.size; simp; omega) (fun q hq => (World.ownsRow.lt HRow.out q hq).1)
     clear hown hgrow hwh HRow x0 x1
     go_wp2_with fail
     go_roundw
     case rel => exact ⟨i + 1, M ++ [(⟨d + k, p.pos⟩ : Pg)], by go_num, by omega, HM6.out, HMl7.out, HW7.out, HB7.out⟩
     case measure => simp [intOf]; omega
   ·obtain rfl : i = L.length := by omega
    have hiz : ¬ (L.length : Int) < (L.length : Int) := by omega
    rw [List.take_length] at HM
    have HZ : Hid (Below w.heap.size w wr) := H3.out.trans (HB.out.mono H3.out.size)
    have HSl : Hid (SlP wr u9 (shiftG L k)) := by
     have := HW.out.sl HZ.out
     rw [HM.out] at this
     exact this
    clear HW HB HMl HM
    by_cases h0 : L.length = 0
    ·have hbS : RightG (shiftG L k) := by
      refine shift_right HRt.out hki.1 fun p hp => ?_
      have := List.length_pos_of_mem hp
      omega
     have hs := shift_bytes HRt.out hki.1 hbS
     have hsL := bytesP_len HRt.out
     rw [if_pos hbS] at CP2
     rw [decide_eq_true hbS] at CR2
     obtain ⟨T1, hT1⟩ : ∃ T, bs (bytesP L) = T := ⟨_, rfl⟩
     obtain ⟨T2, hT2⟩ : ∃ T, bs (bytesP (shiftG L k)) = T := ⟨_, rfl⟩
     have hz1 : T1.size = (bytesP L).length := by rw [<- hT1, Fr.bs_size]
     have hz2 : T2.size = (bytesP (shiftG L k)).length := by rw [<- hT2, Fr.bs_size]
     rw [hT1] at CP1
     rw [hT2] at CP2
     have hs1 : (T1.size : Int) <= (T2.size : Int) := by omega
     have hs2 : (T2.size : Int) <= (T1.size : Int) + 4 := by omega
     have hs3 : IntKind.i64.wrap ((T1.size : Int) + 4) = (T1.size : Int) + 4 := IntWalk.i64_in _ (by omega)
     clear hs hsL hT1 hT2 hz1 hz2 hbS
     have h0z : (L.length : Int) = 0 := by omega
     rw [h0] at CP1
     go_wp2_with fail
     refine (CR2.out _ _ HSl.out).mono ?_
     rintro e w7 ⟨rfl, hbz⟩
     have H7 := Lib.hid (HN.out HZ.out hbz)
     go_wp2_with fail
     refine (CP2.out _ _ (HSl.out.below hbz)).mono ?_
     rintro e w8 ⟨rfl, hb8⟩
     have H8 := Lib.hid (HN.out H7.out hb8)
     clear hb8
     go_wp2_with fail
     refine (CP1.out _ H8.out).mono ?_
     rintro e w9 ⟨rfl, hb9⟩
     have H9 := Lib.hid (HN.out H8.out hb9)
     clear hb9
     go_wp2_with fail
     go_ret
     exact ⟨rfl, H9.out⟩
    ·obtain ⟨j, hjj⟩ : ∃ j, L.length - 1 = j := ⟨_, rfl⟩
     have hjl : j < L.length := by omega
     have hlt0 : ¬ (L.length : Int) = 0 := by omega
     have h0n : ((L.length : Int) == 0) = false := beq_eq_false_iff_ne.2 hlt0
     have hw1 : IntKind.i64.wrap ((L.length : Int) - 1) = (j : Int) := by rw [show (L.length : Int) - 1 = (j : Int) by omega]; exact IntWalk.i64_in _ (by omega)
     have hj3 : 0 <= (j : Int) := by omega
     have hj4 : (j : Int).toNat = j := rfl
     have hj5 : (j : Int) < (L.length : Int) := by omega
     obtain ⟨g, off, ve, rfl, hgs, p0, -, -⟩ := HC.out j hjl
     have HDj := HD.out j hjl
     have hIff0 := shift_iff HRt.out hki.1 (by omega : 0 < L.length)
     obtain ⟨d, hdd⟩ : ∃ d, L[j].doc = d := ⟨_, rfl⟩
     have hIff : RightG (shiftG L k) ↔ d + k < 500 := by
      rw [hIff0, <- hdd]
      subst hjj
      exact Iff.rfl
     rw [hdd] at p0 HDj
     have HP0 := Lib.hid p0
     have HGs := Lib.hid hgs
     have hwd : IntKind.i64.wrap (d + k) = d + k := IntWalk.i64_in _ (by omega)
     clear p0 hgs hdd hIff0 hjj h0
     by_cases hlt5 : d + k < 500
     ·have hbS := hIff.2 hlt5
      clear hIff
      have hs := shift_bytes HRt.out hki.1 hbS
      have hsL := bytesP_len HRt.out
      rw [if_pos hbS] at CP2
      rw [decide_eq_true hbS] at CR2
      obtain ⟨T1, hT1⟩ : ∃ T, bs (bytesP L) = T := ⟨_, rfl⟩
      obtain ⟨T2, hT2⟩ : ∃ T, bs (bytesP (shiftG L k)) = T := ⟨_, rfl⟩
      have hz1 : T1.size = (bytesP L).length := by rw [<- hT1, Fr.bs_size]
      have hz2 : T2.size = (bytesP (shiftG L k)).length := by rw [<- hT2, Fr.bs_size]
      rw [hT1] at CP1
      rw [hT2] at CP2
      have hs1 : (T1.size : Int) <= (T2.size : Int) := by omega
      have hs2 : (T2.size : Int) <= (T1.size : Int) + 4 := by omega
      have hs3 : IntKind.i64.wrap ((T1.size : Int) + 4) = (T1.size : Int) + 4 := IntWalk.i64_in _ (by omega)
      clear hs hsL hT1 hT2 hz1 hz2 hbS
      go_wp2_with fail
      refine (CR2.out _ _ HSl.out).mono ?_
      rintro e w7 ⟨rfl, hbz⟩
      have H7 := Lib.hid (HN.out HZ.out hbz)
      have x0 := (H7.out.cell (p := ⟨g, _, none⟩) HGs.out).trans HP0.out
      go_wp2_with fail
      refine (CP2.out _ _ (HSl.out.below hbz)).mono ?_
      rintro e w8 ⟨rfl, hb8⟩
      have H8 := Lib.hid (HN.out H7.out hb8)
      clear hb8
      go_wp2_with fail
      refine (CP1.out _ H8.out).mono ?_
      rintro e w9 ⟨rfl, hb9⟩
      have H9 := Lib.hid (HN.out H8.out hb9)
      clear hb9
      go_wp2_with fail
      go_ret
      exact ⟨rfl, H9.out⟩
     ·have hbS : ¬ RightG (shiftG L k) := fun h => hlt5 (hIff.1 h)
      clear hIff
      rw [if_neg hbS] at CP2
      rw [decide_eq_false hbS] at CR2
      obtain ⟨T1, hT1⟩ : ∃ T, bs (bytesP L) = T := ⟨_, rfl⟩
      rw [hT1] at CP1
      clear hT1 hbS
      go_wp2_with fail
      refine (CR2.out _ _ HSl.out).mono ?_
      rintro e w7 ⟨rfl, hbz⟩
      have H7 := Lib.hid (HN.out HZ.out hbz)
      have x0 := (H7.out.cell (p := ⟨g, _, none⟩) HGs.out).trans HP0.out
      go_wp2_with fail
      refine (CP2.out _ _ (HSl.out.below hbz)).mono ?_
      rintro e w8 ⟨rfl, hb8⟩
      have H8 := Lib.hid (HN.out H7.out hb8)
      clear hb8
      go_wp2_with fail
      refine (CP1.out _ H8.out).mono ?_
      rintro e w9 ⟨rfl, hb9⟩
      have H9 := Lib.hid (HN.out H8.out hb9)
      clear hb9
      go_wp2_with fail
      go_ret
      exact ⟨rfl, H9.out⟩
 ·by_cases hR : RightG L
  ·rw [decide_eq_true hR] at CR
   have hsm : ¬ smallB L = true := fun h => hgo ⟨hR, h⟩
   rw [Bool.eq_false_iff.2 hsm] at CM
   clear hgo hR hp hsm
   go_enter Try.func7, Try.ntmps7
   go_wp2_with fail
   refine CS.out.mono ?_
   rintro e w1 ⟨rfl, hb1⟩
   have H1 := Lib.hid hb1
   clear hb1
   go_wp2_with fail
   refine (CR.out _ H1.out).mono ?_
   rintro e w2 ⟨rfl, hb2⟩
   have H2 := Lib.hid (HN.out H1.out hb2)
   clear hb2
   go_wp2_with fail
   refine (CM.out _ H2.out).mono ?_
   rintro e w3 ⟨rfl, hb3⟩
   have H3 := Lib.hid (HN.out H2.out hb3)
   clear hb3
   go_wp2_with fail
   go_ret
   exact ⟨rfl, H3.out⟩
  ·rw [decide_eq_false hR] at CR
   generalize smallB L = b at *
   clear hgo hR hp
   go_enter Try.func7, Try.ntmps7
   go_wp2_with fail
   refine CS.out.mono ?_
   rintro e w1 ⟨rfl, hb1⟩
   have H1 := Lib.hid hb1
   clear hb1
   go_wp2_with fail
   refine (CR.out _ H1.out).mono ?_
   rintro e w2 ⟨rfl, hb2⟩
   have H2 := Lib.hid (HN.out H1.out hb2)
   clear hb2
   go_wp2_with fail
   refine (CM.out _ H2.out).mono ?_
   rintro e w3 ⟨rfl, hb3⟩
   have H3 := Lib.hid (HN.out H2.out hb3)
   clear hb3
   go_wp2_with fail
   go_ret
   exact ⟨rfl, H3.out⟩
end Go.Proofs.Ytjcajeilhcjneaa.Po

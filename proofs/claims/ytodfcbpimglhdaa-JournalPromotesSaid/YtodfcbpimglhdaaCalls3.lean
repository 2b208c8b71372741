/- What Flush and Crash answer and leave behind, for every device. -/
import Derived.Test.YtodfcbpimglhdaaSettle
namespace Go.Proofs.Ytodfcbpimglhdaa
open Go.RowKit
section
variable {S : Nat → Prop} {w : World} {p q : Nat} {pv : Value} {D : DevS}

theorem DevS.Ok.settled (ok : D.Ok) (f : Nat → Nat) (hf : ∀ k, k < D.pend.length → f k ≤ 256) : ({ D with disk := laidTo f D.pend D.disk D.pend.length, pend := [] } : DevS).Ok := by
  have h := ok.laid f hf D.pend.length
  exact ⟨h.some, h.few, h.whole, (fun x hx => by cases hx), h.fuse0, h.fuse1⟩

theorem settle_any (g : FuncId) (cb : Array Value) (f : Nat → Nat) (hb : D.pend.length ≤ 1000000) (hf : ∀ k, k < D.pend.length → f k ≤ 256) (d : Dev S w p q pv D)
    (eg : ∀ args w, (callFunc g args).run Try.prog w = .ok (.enter g args) w)
    (hcall : ∀ (k : Nat) (W : World), k < D.pend.length → Only S w W → Calls Try.prog g (#[.int .i64 k] ++ cb) W fun e w' => e = .returned (.int .i64 (f k)) ∧ W = w') :
    Calls Try.prog 65 #[.pointer (some ⟨p, 0, none⟩), .func (.func g) #[] cb] w fun e w' => e = .returned (.tuple #[]) ∧ Dev S w' p q (.slice none 0 0) { D with disk := laidTo f D.pend D.disk D.pend.length, pend := [] } ∧ Only S w w' := by
  rcases d.hr.2 with ⟨rfl, h0⟩ | ⟨r, cap, cur, rfl, _⟩
  · have e : laidTo f D.pend D.disk D.pend.length = D.disk := by rw [h0]; rfl
    rw [e]
    exact settle_none _ d
  · exact settle_some g cb f _ cap r rfl hb hf d eg hcall

set_option maxRecDepth 100000 in
set_option maxHeartbeats 400000 in
theorem flush1_any (k : Int) (W : World) : Calls Try.prog 68 #[.int .i64 k] W fun e w' => e = .returned (.int .i64 256) ∧ W = w' := by
  go_enter Try.func68, Try.ntmps68
  go_wp2
  go_ret
  exact ⟨rfl, rfl⟩

theorem enters_flush1 : ∀ args w, (callFunc 68 args).run Try.prog w = .ok (.enter 68 args) w := enters_of Try.func68 (by kernel_rfl) rfl
theorem enters_crash1 : ∀ args w, (callFunc 66 args).run Try.prog w = .ok (.enter 66 args) w := enters_of Try.func66 (by kernel_rfl) rfl

/-- A flush: its error, and the device behind it. -/
def DevS.fl (D : DevS) : Int × DevS :=
  if D.dead then (4, D) else if D.tk.1 = false then (4, D.tk.2) else (0, { D.tk.2 with disk := laidTo (fun _ => 256) D.pend D.disk D.pend.length, pend := [] })

set_option maxRecDepth 100000 in
set_option maxHeartbeats 400000 in
theorem flush_dead (h : w.cell? ⟨p, 4, none⟩ = some (.bool true)) :
    Calls Try.prog 40 #[.pointer (some ⟨p, 0, none⟩)] w fun e w' => e = .returned (.int .i64 4) ∧ w = w' := by
  go_enter Try.func40, Try.ntmps40
  go_wp2
  go_ret
  exact ⟨rfl, rfl⟩

set_option maxRecDepth 100000 in
set_option maxHeartbeats 400000 in
theorem flush_dies (hde : D.dead = false) (htk : D.tk.1 = false) (d : Dev S w p q pv D) :
    Calls Try.prog 40 #[.pointer (some ⟨p, 0, none⟩)] w fun e w' => e = .returned (.int .i64 4) ∧ Dev S w' p q pv D.tk.2 ∧ Only S w w' := by
  have cT := turn_any d; rw [htk] at cT
  have c4 := d.c4; rw [hde] at c4
  have HT := Lib.hid cT; clear cT
  clear htk d hde
  go_enter Try.func40, Try.ntmps40
  go_wp2_with fail
  refine HT.out.mono ?_
  rintro e w1 ⟨rfl, hd1, ho1, hz1⟩
  have HD1 := Lib.hid hd1; clear hd1 hz1
  have HO := Lib.hid ho1; clear ho1
  go_wp2
  go_ret
  exact ⟨rfl, HD1.out, HO.out⟩

set_option maxRecDepth 100000 in
set_option maxHeartbeats 400000 in
theorem flush_goes (hl : D.pend.length ≤ 1000000) (hde : D.dead = false) (htk : D.tk.1 = true) (d : Dev S w p q pv D) :
    Calls Try.prog 40 #[.pointer (some ⟨p, 0, none⟩)] w fun e w' => e = .returned (.int .i64 0) ∧ Dev S w' p q (.slice none 0 0) { D.tk.2 with disk := laidTo (fun _ => 256) D.pend D.disk D.pend.length, pend := [] } ∧ Only S w w' := by
  have cT := turn_any d; rw [htk] at cT
  have c4 := d.c4; rw [hde] at c4
  have HT := Lib.hid cT; clear cT
  clear htk d hde
  go_enter Try.func40, Try.ntmps40
  go_wp2_with fail
  refine HT.out.mono ?_
  rintro e w1 ⟨rfl, hd1, ho1, hz1⟩
  have cS := settle_any 68 #[] (fun _ => 256) (by rw [DevS.tk_pend]; exact hl) (fun _ _ => Nat.le_refl _) hd1 enters_flush1 (fun k W _ _ => flush1_any k W)
  rw [DevS.tk_pend, DevS.tk_disk] at cS
  have HS := Lib.hid cS; clear cS hd1 hz1
  have HO := Lib.hid ho1; clear ho1
  go_wp2_with fail
  refine HS.out.mono ?_
  rintro e w2 ⟨rfl, hd2, ho2⟩
  have HD2 := Lib.hid hd2; clear hd2
  have HO2 := Lib.hid ho2; clear ho2
  go_wp2
  go_ret
  exact ⟨rfl, HD2.out, HO.out.trans HO2.out (fun _ _ h => h)⟩

theorem flush_any (hl : D.pend.length ≤ 1000000) (d : Stands S w p D) :
    Calls Try.prog 40 #[.pointer (some ⟨p, 0, none⟩)] w fun e w' => e = .returned (.int .i64 D.fl.1) ∧ Stands S w' p D.fl.2 ∧ Only S w w' := by
  obtain ⟨q, pv, d⟩ := d
  by_cases h1 : D.dead = true
  · have e : D.fl = (4, D) := by simp [DevS.fl, h1]
    rw [e]
    exact (flush_dead (by rw [d.c4, h1])).mono fun e w' ⟨he, hw⟩ => by subst hw; exact ⟨he, ⟨q, pv, d⟩, Only.refl _ _⟩
  · by_cases h2 : D.tk.1 = false
    · have e : D.fl = (4, D.tk.2) := by simp [DevS.fl, h1, h2]
      rw [e]
      exact (flush_dies (by simpa using h1) h2 d).mono fun e w' ⟨he, hd, ho⟩ => ⟨he, ⟨q, pv, hd⟩, ho⟩
    · have e : D.fl = (0, { D.tk.2 with disk := laidTo (fun _ => 256) D.pend D.disk D.pend.length, pend := [] }) := by simp [DevS.fl, h1, h2]
      rw [e]
      exact (flush_goes hl (by simpa using h1) (by simpa using h2) d).mono fun e w' ⟨he, hd, ho⟩ => ⟨he, ⟨q, _, hd⟩, ho⟩

/-- A slice value that says kl, outside of the blocks of S. -/
def Bools (S : Nat → Prop) (W : World) (v : Value) (kl : List Bool) : Prop :=
  ∃ ao cap, v = .slice ao kl.length cap ∧ (kl = [] ∨ ∃ g off, ao = some ⟨g, off, none⟩ ∧ ¬ S g ∧ ∀ i (h : i < kl.length), W.cell? ⟨g, off + i, none⟩ = some (.bool kl[i]))
theorem Bools.kept {T : Nat → Prop} {W W' : World} {v : Value} {kl : List Bool} (h : Bools S W v kl) (ho : Only T W W') (hT : ∀ k, T k → S k) : Bools S W' v kl := by
  obtain ⟨ao, cap, hv, h⟩ := h
  refine ⟨ao, cap, hv, ?_⟩
  rcases h with h | ⟨g, off, ha, hs, hc⟩
  · exact .inl h
  · refine .inr ⟨g, off, ha, hs, fun i hi => ?_⟩
    have := hc i hi
    rw [ho.cell (p := ⟨g, off + i, none⟩) (World.block_lt_of_cell? W _ this) (fun t => hs (hT _ t))]
    exact this

/-- How many bytes of the k-th pending write a crash leaves. -/
def left (kl : List Bool) (torn : Int) (cut : Nat) (k : Nat) : Nat := if kl[k]? = some true then 256 else if (k : Int) = torn then cut else 0
theorem left_le (kl : List Bool) (torn : Int) (cut k : Nat) (h : cut ≤ 256) : left kl torn cut k ≤ 256 := by
  unfold left; split
  · omega
  · split <;> omega

set_option maxRecDepth 100000 in
set_option maxHeartbeats 1000000 in
theorem crash1_any (kl : List Bool) (torn : Int) (cut k a b c : Nat) (v : Value) (W : World) (hv : Bools S W v kl) (hl : kl.length ≤ 9223372036854775807)
    (ca : W.cell? ⟨a, 0, none⟩ = some v) (cb : W.cell? ⟨b, 0, none⟩ = some (.int .i64 torn)) (cc : W.cell? ⟨c, 0, none⟩ = some (.int .i64 cut)) :
    Calls Try.prog 66 #[.int .i64 k, .pointer (some ⟨a, 0, none⟩), .pointer (some ⟨b, 0, none⟩), .pointer (some ⟨c, 0, none⟩)] W fun e w' => e = .returned (.int .i64 (left kl torn cut k)) ∧ W = w' := by
  obtain ⟨ao, cap, rfl, hcells⟩ := hv
  by_cases hlt : k < kl.length
  · rcases hcells with h | ⟨g, off, rfl, _, hc⟩
    · subst h; simp at hlt
    · have hck := hc k hlt
      clear hc
      have e : kl[k]? = some kl[k] := List.getElem?_eq_getElem hlt
      have HE := Lib.hid e; clear e
      generalize kl[k] = kk at *
      generalize kl.length = n at *
      cases kk
      · by_cases ht : (k : Int) = torn
        · have ht' : ((k : Int) == torn) = true := by simpa using ht
          have HF : Hid (left kl torn cut k = cut) := by show left kl torn cut k = cut; unfold left; rw [HE.out]; simp [ht]
          have HT := Lib.hid ht; clear ht
          rw [HF.out]
          go_enter Try.func66, Try.ntmps66
          go_wp2
          go_ret
          exact ⟨rfl, rfl⟩
        · have ht' : ((k : Int) == torn) = false := by simpa using ht
          have HF : Hid (left kl torn cut k = 0) := by show left kl torn cut k = 0; unfold left; rw [HE.out]; simp [ht]
          clear ht
          rw [HF.out]
          go_enter Try.func66, Try.ntmps66
          go_wp2
          go_ret
          exact ⟨rfl, rfl⟩
      · have HF : Hid (left kl torn cut k = 256) := by show left kl torn cut k = 256; unfold left; rw [HE.out]; simp
        rw [HF.out]
        go_enter Try.func66, Try.ntmps66
        go_wp2
        go_ret
        exact ⟨rfl, rfl⟩
  · have e : kl[k]? = none := List.getElem?_eq_none (by omega)
    have HE := Lib.hid e; clear e hcells
    generalize kl.length = n at *
    have hge : n ≤ k := by omega
    clear hlt
    by_cases ht : (k : Int) = torn
    · have ht' : ((k : Int) == torn) = true := by simpa using ht
      have HF : Hid (left kl torn cut k = cut) := by show left kl torn cut k = cut; unfold left; rw [HE.out]; simp [ht]
      clear ht
      rw [HF.out]
      go_enter Try.func66, Try.ntmps66
      go_wp2
      go_ret
      exact ⟨rfl, rfl⟩
    · have ht' : ((k : Int) == torn) = false := by simpa using ht
      have HF : Hid (left kl torn cut k = 0) := by show left kl torn cut k = 0; unfold left; rw [HE.out]; simp [ht]
      clear ht
      rw [HF.out]
      go_enter Try.func66, Try.ntmps66
      go_wp2
      go_ret
      exact ⟨rfl, rfl⟩

/-- A crash. -/
def DevS.crash (D : DevS) (kl : List Bool) (torn cut : Int) : DevS :=
  { disk := laidTo (left kl torn (min (max cut 0) 256).toNat) D.pend D.disk D.pend.length, pend := [], fused := false, fuse := 0, dead := false }

theorem DevS.Ok.crash (ok : D.Ok) (kl : List Bool) (torn cut : Int) : (D.crash kl torn cut).Ok := by
  have h := ok.settled (left kl torn (min (max cut 0) 256).toNat) (fun k _ => left_le _ _ _ _ (by omega))
  exact ⟨h.some, h.few, h.whole, (fun x hx => by cases hx), by simp [DevS.crash], by simp [DevS.crash]⟩

theorem three_new (w : World) (o1 o2 o3 : Obj) : (((w.alloc o1).alloc o2).alloc o3).heap[w.heap.size]? = some o1 ∧ (((w.alloc o1).alloc o2).alloc o3).heap[w.heap.size + 1]? = some o2 ∧ (((w.alloc o1).alloc o2).alloc o3).heap[w.heap.size + 1 + 1]? = some o3 := by
  have z1 : (w.alloc o1).heap.size = w.heap.size + 1 := by simp
  have z2 : ((w.alloc o1).alloc o2).heap.size = w.heap.size + 1 + 1 := by simp
  refine ⟨?_, ?_, ?_⟩
  · rw [Below.heap_alloc _ _ _ (by omega), Below.heap_alloc _ _ _ (by omega), heap_alloc_new]
  · rw [Below.heap_alloc _ _ _ (by omega), ← z1, heap_alloc_new]
  · rw [← z2, heap_alloc_new]

set_option maxRecDepth 100000 in
set_option maxHeartbeats 1000000 in
theorem crash_cut (kl : List Bool) (torn cut : Int) (c : Nat) (hc : c ≤ 256) (hcut : (cut < 0 ∧ c = 0) ∨ (256 < cut ∧ c = 256) ∨ (0 ≤ cut ∧ cut ≤ 256 ∧ cut = c)) (v : Value) (hl : D.pend.length ≤ 1000000) (hkl : kl.length ≤ 9223372036854775807) (d : Dev S w p q pv D) (hv : Bools S w v kl) :
    Calls Try.prog 31 #[.pointer (some ⟨p, 0, none⟩), v, .int .i64 torn, .int .i64 cut] w fun e w' => e = .returned (.tuple #[]) ∧
      Dev S w' p q (.slice none 0 0) { disk := laidTo (left kl torn c) D.pend D.disk D.pend.length, pend := [], fused := false, fuse := 0, dead := false } ∧ Only S w w' := by
  let w3 := ((w.alloc (.cells #[v] 56)).alloc (.cells #[.int .i64 torn] 3)).alloc (.cells #[.int .i64 c] 3)
  have o3 : Only (fun _ => False) w w3 := (((Only.refl _ _).alloc _).alloc _).alloc _
  have d3 : Dev S w3 p q pv D := d.kept o3 (fun _ _ h => h)
  have ca : w3.cell? ⟨w.heap.size, 0, none⟩ = some v := by rw [cell_at (three_new w _ _ _).1]; rfl
  have cb : w3.cell? ⟨w.heap.size + 1, 0, none⟩ = some (.int .i64 torn) := by rw [cell_at (three_new w _ _ _).2.1]; rfl
  have cc : w3.cell? ⟨w.heap.size + 1 + 1, 0, none⟩ = some (.int .i64 c) := by rw [cell_at (three_new w _ _ _).2.2]; rfl
  have z3 : w3.heap.size = w.heap.size + 1 + 1 + 1 := by simp [w3]
  have ns : ∀ k, S k → k < w.heap.size := d.lt
  have cS := settle_any 66 #[.pointer (some ⟨w.heap.size, 0, none⟩), .pointer (some ⟨w.heap.size + 1, 0, none⟩), .pointer (some ⟨w.heap.size + 1 + 1, 0, none⟩)] (left kl torn c) hl (fun k _ => left_le _ _ _ _ hc) d3 enters_crash1 (fun k W hk hW => by
    have e1 := hW.cell (p := ⟨w.heap.size, 0, none⟩) (by rw [z3]; simp; omega) (fun h => by have := ns _ h; simp at this)
    have e2 := hW.cell (p := ⟨w.heap.size + 1, 0, none⟩) (by rw [z3]; simp) (fun h => by have := ns _ h; simp at this; omega)
    have e3 := hW.cell (p := ⟨w.heap.size + 1 + 1, 0, none⟩) (by rw [z3]; simp) (fun h => by have := ns _ h; simp at this; omega)
    exact crash1_any kl torn c k _ _ _ v W ((hv.kept o3 (fun _ h => h.elim)).kept hW (fun _ h => h)) hkl (e1.trans ca) (e2.trans cb) (e3.trans cc))
  have HS := Lib.hid cS
  have HO3 := Lib.hid o3
  have HNS := Lib.hid ns
  have HV := Lib.hid hv
  have hsh : ∃ ao n cap, v = .slice ao n cap := by obtain ⟨ao, cap, rfl, _⟩ := hv; exact ⟨ao, _, cap, rfl⟩
  clear cS d3 ca cb cc z3 ns o3 d hv hkl
  obtain ⟨ao, n, cap, rfl⟩ := hsh
  rcases hcut with ⟨h1, rfl⟩ | ⟨h1, rfl⟩ | ⟨h1, h2, rfl⟩
  all_goals
    go_enter Try.func31, Try.ntmps31
    go_wp2_with fail
    refine HS.out.mono ?_
    rintro e w4 ⟨rfl, hd4, ho4⟩
    have cF := fuse_dev (-1) (by omega) hd4
    have HF := Lib.hid cF; clear cF hd4
    have HO4 := Lib.hid ho4; clear ho4
    go_wp2_with fail
    refine HF.out.mono ?_
    rintro e w5 ⟨rfl, hd5, ho5, hz5⟩
    have c4 := hd5.c4
    have f4 := hd5.f 4
    have HD5 := Lib.hid hd5; clear hd5 hz5
    have HO5 := Lib.hid ho5; clear ho5
    go_wp2
    go_end0
    have d6 := HD5.out.put 4 (.bool false) { disk := laidTo (left kl torn _) D.pend D.disk D.pend.length, pend := [], fused := false, fuse := 0, dead := false } _ ⟨HD5.out.ok.some, HD5.out.ok.few, HD5.out.ok.whole, (fun x hx => by cases hx), Int.le_refl 0, by simp⟩ rfl rfl (World.ownsRow_nil _ _ _ _) HD5.out.rp HD5.out.rq HD5.out.sr
    refine ⟨rfl, d6, ?_⟩
    have o4 := (HO3.out.mono (T := S) (fun _ _ h => h.elim)).trans HO4.out (fun _ _ h => h)
    exact (o4.trans HO5.out (fun _ _ h => h)).setCell (fun _ => HD5.out.sp) _

theorem crash_any (kl : List Bool) (torn cut : Int) (v : Value) (hl : D.pend.length ≤ 1000000) (hkl : kl.length ≤ 9223372036854775807) (d : Stands S w p D) (hv : Bools S w v kl) :
    Calls Try.prog 31 #[.pointer (some ⟨p, 0, none⟩), v, .int .i64 torn, .int .i64 cut] w fun e w' => e = .returned (.tuple #[]) ∧ Stands S w' p (D.crash kl torn cut) ∧ Only S w w' := by
  obtain ⟨q, pv, d⟩ := d
  exact (crash_cut kl torn cut (min (max cut 0) 256).toNat (by omega) (by omega) v hl hkl d hv).mono fun e w' ⟨he, h1, h2⟩ => ⟨he, ⟨q, _, h1⟩, h2⟩

end
end Go.Proofs.Ytodfcbpimglhdaa

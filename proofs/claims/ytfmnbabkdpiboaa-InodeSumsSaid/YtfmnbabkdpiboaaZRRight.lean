/- What the document's Right answers, for the blocks 0 to 4095. -/
import Derived.Lib.MinMax
import Derived.Test.YtfmnbabkdpiboaaZIIns
import Derived.Test.YtfmnbabkdpiboaaZIUnp
import Derived.Test.YtfmnbabkdpiboaaZRName
import Derived.Test.YtfmnbabkdpiboaaZIBase

namespace Go.Proofs.Ytfmnbabkdpiboaa
open Go.RowKit
open Fr (below_drewN)

theorem Right0.next2 {L : List Fl} {a b : Int} {k : Nat} (h : Right0 (L.take k) a b) (hk : k < L.length) (hr : ∀ q, k = q + 1 → ∀ h : q < L.length, less L[q].name L[k].name = true) (hn : okName L[k].name = true) (hf : Filled L[k]) (ha : ∀ x ∈ L[k].ext, Among x a b) (hap : (allE (L.take k) ++ L[k].ext).Pairwise Apart) : Right0 (L.take (k + 1)) a b := by
  obtain ⟨_, p2, p3⟩ := List.pairwise_append.1 hap
  rw [List.take_succ_eq_append_getElem hk]
  refine h.snoc hn (fun g hg => ?_) hf ha p2 p3
  obtain ⟨q, hq, rfl⟩ := List.getElem_of_mem hg
  rw [List.length_take] at hq
  rw [List.getElem_take]
  obtain ⟨m, rfl⟩ : ∃ m, k = m + 1 := ⟨k - 1, by omega⟩
  have h1 := hr m rfl (by omega)
  by_cases e : q = m
  · subst e; exact h1
  · have := List.pairwise_iff_getElem.1 h.rise q m (by simp; omega) (by simp; omega) (by omega)
    rw [List.getElem_take, List.getElem_take] at this
    exact less_trans this h1
theorem FilledR.filled {f : Fl} (h : FilledR f) : Filled f := ⟨h.size.1, h.few, fun x hx => (h.some x hx).1, h.sum⟩
/-- What is right has files as the document asks them. -/
theorem RightP.filledR {L : List Fl} (h : RightP L 0 4096) {f : Fl} (hf : f ∈ L) : FilledR f := by
  have h1 := h.2.filled f hf
  have h2 := h.small f hf
  exact ⟨h2.size, h1.few, fun x hx => ⟨h1.some x hx, h.2.among x (List.mem_flatMap.2 ⟨f, hf, hx⟩)⟩, h1.sum⟩
/-- Extents of small numbers. -/
def SmE (E : List (Int × Int)) : Prop := ∀ x ∈ E, 0 ≤ x.1 ∧ x.1 ≤ 4096 ∧ 0 ≤ x.2 ∧ x.2 ≤ 4096
theorem sm_of {x : Int × Int} (h : 1 ≤ x.2 ∧ Among x 0 4096) : 0 ≤ x.1 ∧ x.1 ≤ 4096 ∧ 0 ≤ x.2 ∧ x.2 ≤ 4096 := by
  have h1 := h.2.lo; have h2 := h.2.hi; have h3 := h.2.fit; have h4 := h.1
  omega
theorem apart_push {U : List (Int × Int)} {x : Int × Int} (h : U.Pairwise Apart) (hx : ∀ y ∈ U, Apart y x) : (U ++ [x]).Pairwise Apart :=
  List.pairwise_append.2 ⟨h, by simp, fun y hy z hz => by rw [List.mem_singleton.1 hz]; exact hx y hy⟩
set_option maxRecDepth 100000 in
set_option maxHeartbeats 16000000 in
theorem rright_any (L : List Fl) (v : Value) (w : World) (h : SlF w v L) (hN : Nums64 L) (hnm : ∀ f ∈ L, f.name.size ≤ 1000000) (hn : L.length ≤ 100000) : Calls Try.prog 15 #[v, .int .i64 0, .int .i64 4096] w fun e w' => e = .returned (.bool (rtB L 0 4096)) ∧ Below w.heap.size w w' := by
  obtain ⟨i0, hi0, hz0, hz1, hz2⟩ := info_parts Try.infoX
  have HZ2 := Lib.hid hz2; clear hz2
  have HCl := Lib.hid fun i (hi : i < L.length) => h.cells hi
  obtain ⟨ao, c, rfl, hat⟩ := h.shape
  have HAt := Lib.hid hat; clear hat h
  have HB := Lib.hid (Below.refl w.heap.size w)
  have HR := Lib.hid (rtB_iff L 0 4096)
  obtain ⟨r, hr⟩ : ∃ r, rtB L 0 4096 = r := ⟨_, rfl⟩
  rw [hr] at HR ⊢
  clear hr
  have HNum := Lib.hid hN; clear hN
  have HNm := Lib.hid hnm; clear hnm
  obtain ⟨n, hl⟩ : ∃ n, L.length = n := ⟨_, rfl⟩
  have HN := Lib.hid hl
  rw [hl] at hn ⊢
  clear hl
  by_cases h64 : 64 < n
  · have z1 : (64 : Int) < (n : Int) := by omega
    obtain rfl : r = false := bool_false HR.out (fun h => by have := h.1; have := HN.out; omega)
    clear HR
    go_enter Try.func15, Try.ntmps15
    go_wp2_with fail
    go_ret
    exact ⟨rfl, HB.out⟩
  have z1 : ¬ ((64 : Int) < (n : Int)) := by omega
  go_enter Try.func15, Try.ntmps15
  go_wp2_with fail
  go_loopw [7, 8] (fun uv kv wr => ∃ (k : Nat), k ≤ n ∧ kv = .int .i64 (k : Int) ∧ Hid (OwnE w.heap.size wr uv (allE (L.take k))) ∧ Hid (Right0 (L.take k) 0 4096) ∧ Hid (SmE (allE (L.take k))) ∧ Hid (Below w.heap.size w wr)) (fun _ kv _ => n - (intOf kv).toNat)
  case atStart => exact ⟨0, Nat.zero_le _, rfl, OwnE.nil _ _, Right0.nil 0 4096, (show SmE [] from fun x hx => by cases hx), HB⟩
  case round =>
    obtain ⟨k, hk, rfl, HO, H0, HSm, HBr⟩ := hrel
    have hbr := HBr.out.size
    obtain ⟨ua, uc, huv⟩ := own_shapeE HO.out
    subst huv
    by_cases hlt : k < n
    · have hkz : (k : Int) < (n : Int) := by omega
      have hkL : k < L.length := by rw [HN.out]; exact hlt
      obtain ⟨bb, off, c1, eo, ec, hv, hcell⟩ := HCl.out k hkL
      obtain ⟨rfl, rfl⟩ : ao = some ⟨bb, off, none⟩ ∧ c = c1 := by simpa using hv
      clear hv
      have HSE : Hid (∀ W, Below w.heap.size w W → SlE W (.slice eo (L[k]).ext.length ec) (L[k]).ext) := fun W hW => by
        obtain ⟨b', off', ve', e, hF', hS'⟩ := HAt.out W hW k hkL
        obtain ⟨rfl, rfl⟩ : bb = b' ∧ off = off' := by simpa using e
        have h1 := hF'.c3
        rw [(hcell W hW).1.2.2.2] at h1
        cases h1
        exact hS'.below hW
      have hnf := HNum.out L[k] (List.getElem_mem hkL)
      have hnm := HNm.out L[k] (List.getElem_mem hkL)
      have HNa := Lib.hid fun W => rname_any L[k].name W hnm
      have HFi := Lib.hid fun W hW => rfile_any L[k] (.slice eo (L[k]).ext.length ec) W hnf.2.1 hnf.2.2 (HSE.out W hW)
      have HRn : Hid (r = true → okName L[k].name = true) := fun h => (HR.out.1 h).2.names _ (List.getElem_mem hkL)
      have HRf : Hid (r = true → frB L[k] = true) := fun h => (frB_iff _).2 ((HR.out.1 h).filledR (List.getElem_mem hkL))
      have HFf : Hid (frB L[k] = true → FilledR L[k]) := (frB_iff _).1
      have HRr : Hid (r = true → ∀ q, k = q + 1 → ∀ h : q < L.length, less L[q].name L[k].name = true) := fun h q hq hql => List.pairwise_iff_getElem.1 (HR.out.1 h).2.rise q k hql hkL (by omega)
      have HRp : Hid (r = true → ∀ j (hj : j < L[k].ext.length), ∀ y ∈ allE (L.take k) ++ L[k].ext.take j, Apart y L[k].ext[j]) := fun h j hj => (HR.out.1 h).2.apart_at hkL hj
      have HNx : Hid ((∀ q, k = q + 1 → ∀ h : q < L.length, less L[q].name L[k].name = true) → okName L[k].name = true → FilledR L[k] → (allE (L.take k) ++ L[k].ext).Pairwise Apart → Right0 (L.take (k + 1)) 0 4096) := fun h1 h2 h3 h4 => H0.out.next2 hkL h1 h2 h3.filled (fun x hx => (h3.some x hx).2) h4
      have HAk := Lib.hid (allE_take L k hkL)
      have HPl : Hid ((allE (L.take k)).length ≤ 16 * n) := by
        have := allE_len (L.take k) (fun f hf => (H0.out.filled f hf).few)
        rw [List.length_take] at this
        have h9 := HN.out
        show _ ≤ _
        omega
      have HAp : Hid ((allE (L.take k)).Pairwise Apart) := H0.out.apart
      obtain ⟨PP, hPP⟩ : ∃ PP, allE (L.take k) = PP := ⟨_, rfl⟩
      rw [hPP] at HO HSm HRp HNx HAk HPl HAp ⊢
      clear hPP
      obtain ⟨f, hf⟩ : ∃ f, L[k] = f := ⟨_, rfl⟩
      rw [hf] at hcell HNa HFi HRn HRf HFf HRr HRp HNx HAk HSE
      clear hf hnf hnm
      obtain ⟨nm, sh, sz, E⟩ := f
      unfold fileAgg at HFi
      dsimp only at hcell HNa HFi HRn HRr HRp HNx HAk HSE
      obtain ⟨m, hm⟩ : ∃ m, E.length = m := ⟨_, rfl⟩
      have HM := Lib.hid hm
      have HC : Hid (∀ W, Below w.heap.size w W → W.cell? ⟨bb, off + k * 4, none⟩ = some (.string nm) ∧ W.cell? ⟨bb, off + k * 4 + 1, none⟩ = some (.bool sh) ∧ W.cell? ⟨bb, off + k * 4 + 2, none⟩ = some (.int .i64 sz) ∧ W.cell? ⟨bb, off + k * 4 + 3, none⟩ = some (.slice eo m ec)) := fun W hW => by rw [← hm]; exact (hcell W hW).1
      have HCe : Hid (∀ W, Below w.heap.size w W → ∀ j (hj : j < E.length), ∃ be oe, eo = some ⟨be, oe, none⟩ ∧ W.cell? ⟨be, oe + j * 2, none⟩ = some (.int .i64 (E[j]).1) ∧ W.cell? ⟨be, oe + j * 2 + 1, none⟩ = some (.int .i64 (E[j]).2)) := fun W hW => (hcell W hW).2
      rw [hm] at HFi
      have HPr : Hid (∀ km, k = km + 1 → ∃ pn, (∀ W, Below w.heap.size w W → W.cell? ⟨bb, off + km * 4, none⟩ = some (.string pn)) ∧ (r = true → less pn nm = true) ∧ (less pn nm = true → ∀ q, k = q + 1 → ∀ h : q < L.length, less L[q].name nm = true)) := fun km hkm => by
        have hkmL : km < L.length := by omega
        have hle : less (L[km]).name nm = true → ∀ q, k = q + 1 → ∀ h : q < L.length, less L[q].name nm = true := fun h q hq hql => by
          obtain rfl : km = q := by omega
          exact h
        refine ⟨L[km].name, fun W hW => ?_, fun h => HRr.out h km hkm hkmL, hle⟩
        obtain ⟨b', off', ve', e, hF', _⟩ := HAt.out W hW km hkmL
        obtain ⟨rfl, rfl⟩ : bb = b' ∧ off = off' := by simpa using e
        exact hF'.c0
      clear hm hcell hkL HRr HSE
      obtain ⟨x0, x1, x2, x3⟩ := HC.out _ HBr.out
      go_wp2_with fail
      refine (HNa.out _).mono ?_
      rintro e w2 ⟨rfl, rfl⟩
      go_wp2_with fail
      refine (HFi.out _ HBr.out).mono ?_
      rintro e w3 ⟨rfl, hb3⟩
      have HB3 : Hid (Below w.heap.size w w3) := HBr.out.trans (hb3.mono hbr)
      have HO3 : Hid (OwnE w.heap.size w3 (.slice ua PP.length uc) PP) := HO.out.below hb3
      clear hb3 x0 x1 x2 x3 HNa HFi HO
      obtain ⟨x0, x1, x2, x3⟩ := HC.out _ HB3.out
      clear x1 x2
      obtain ⟨b9, hb9⟩ : ∃ b, okName nm = b := ⟨_, rfl⟩
      obtain ⟨b10, hb10⟩ : ∃ b, frB ⟨nm, sh, sz, E⟩ = b := ⟨_, rfl⟩
      rw [hb9] at HRn HNx ⊢
      rw [hb10] at HRf HFf ⊢
      clear hb9 hb10
      go_upto_region 9 with fail
      go_cut [61] (fun u wx => ∃ b : Bool, u = .bool b ∧ Hid (b = true → r = false) ∧ Hid (b = false → b9 = true ∧ b10 = true ∧ (∀ q, k = q + 1 → ∀ h : q < L.length, less L[q].name nm = true)) ∧ Hid (Below w3.heap.size w3 wx))
      case first =>
        clear HNx HAk HPl HAp HM HC HCe HO3 HRp HFf H0 HSm
        cases b9
        · have hrf : Hid (r = false) := by
            show _ = _
            cases r with
            | false => rfl
            | true => have := HRn.out rfl; cases this
          clear HRn HRf HPr HR
          go_wp2_with fail
          go_quiet (fail)
          have HBq := Lib.hid (below_drewN (Below.refl w3.heap.size w3) nq)
          go_wp2_with fail
          go_meet
          exact ⟨true, rfl, (fun _ => hrf.out), (fun h => by cases h), HBq⟩
        · cases b10
          · have hrf : Hid (r = false) := by
              show _ = _
              cases r with
              | false => rfl
              | true => have := HRf.out rfl; cases this
            clear HRn HRf HPr HR
            go_wp2_with fail
            go_quiet (fail)
            have HBq := Lib.hid (below_drewN (Below.refl w3.heap.size w3) nq)
            go_wp2_with fail
            go_meet
            exact ⟨true, rfl, (fun _ => hrf.out), (fun h => by cases h), HBq⟩
          · clear HRn HRf
            by_cases hk0 : k = 0
            · subst hk0
              clear HPr HR
              go_wp2_with fail
              go_quiet (fail)
              have HBq := Lib.hid (below_drewN (Below.refl w3.heap.size w3) nq)
              go_wp2_with fail
              go_meet
              exact ⟨false, rfl, (fun h => by cases h), (fun _ => ⟨by simp, by simp, fun q hq => by omega⟩), HBq⟩
            · obtain ⟨km, rfl⟩ : ∃ km, k = km + 1 := ⟨k - 1, by omega⟩
              obtain ⟨pn, hp0, hp1, hp2⟩ := HPr.out km rfl
              have v0 := hp0 _ HB3.out
              have HP1 := Lib.hid hp1; have HP2 := Lib.hid hp2
              clear hp0 hp1 hp2 HPr HR
              have ww : IntKind.i64.wrap (km : Int) = (km : Int) := IntWalk.i64_in _ (by omega)
              have ww' : IntKind.i64.wrap ((km : Int) + 1 - 1) = (km : Int) := by rw [show (km : Int) + 1 - 1 = km by omega]; exact ww
              have z5 : (0 : Int) < (km : Int) + 1 := by omega
              have hkmz : (km : Int) < (n : Int) := by omega
              have hkmz2 : (km : Int) + 1 < (n : Int) := by omega
              have hkmz3 : (0 : Int) ≤ (km : Int) + 1 := by omega
              have hkmz4 : ((km : Int) + 1).toNat = km + 1 := by omega
              have hle : Op.bytesLess pn.toList nm.toList = less pn nm := rfl
              cases hrb : less pn nm
              · rw [hrb] at hle
                have hrf : Hid (r = false) := by
                  show _ = _
                  cases r with
                  | false => rfl
                  | true => have := HP1.out rfl; rw [hrb] at this; cases this
                clear HP1 HP2
                go_wp2_with fail
                go_quiet (fail)
                have HBq := Lib.hid (below_drewN (Below.refl w3.heap.size w3) nq)
                go_wp2_with fail
                go_meet
                exact ⟨true, rfl, (fun _ => hrf.out), (fun h => by cases h), HBq⟩
              · rw [hrb] at hle
                have HP3 := Lib.hid (HP2.out hrb)
                clear HP1 HP2
                go_wp2_with fail
                go_quiet (fail)
                have HBq := Lib.hid (below_drewN (Below.refl w3.heap.size w3) nq)
                go_wp2_with fail
                go_meet
                exact ⟨false, rfl, (fun h => by cases h), (fun _ => ⟨by simp, by simp, HP3.out⟩), HBq⟩
      case rest =>
        obtain ⟨b, rfl, hq1, hq2, hq3⟩ := hcut
        have HB4 : Hid (Below w.heap.size w wc) := HB3.out.trans (hq3.out.mono HB3.out.size)
        have HO4 : Hid (OwnE w.heap.size wc (.slice ua PP.length uc) PP) := HO3.out.below hq3.out
        clear hq3 HB3 HO3 x0 x3 HRn HRf HPr
        cases b
        case true =>
          obtain rfl := hq1.out rfl
          clear HR
          go_wp2_with fail
          go_ret
          exact ⟨rfl, HB4.out⟩
        obtain ⟨rfl, rfl, hrise⟩ := hq2.out rfl
        have HFF := Lib.hid (HFf.out rfl)
        have HNx2 := Lib.hid (HNx.out hrise rfl HFF.out)
        have hm16 : m ≤ 16 := by have h9 := HFF.out.few; have h8 := HM.out; dsimp only at h9; omega
        clear hq1 hq2 hrise HNx HFf H0
        go_wp2_with fail
        go_loopw [7, 11] (fun uv jv wr => ∃ (j : Nat), j ≤ m ∧ jv = .int .i64 (j : Int) ∧ Hid (OwnE w.heap.size wr uv (PP ++ E.take j)) ∧ Hid ((PP ++ E.take j).Pairwise Apart) ∧ Hid (SmE (PP ++ E.take j)) ∧ Hid (Below w.heap.size w wr)) (fun _ jv _ => m - (intOf jv).toNat)
        case atStart => exact ⟨0, Nat.zero_le _, rfl, (show OwnE _ _ _ (PP ++ E.take 0) by rw [List.take_zero, List.append_nil]; exact HO4.out), (show List.Pairwise Apart (PP ++ E.take 0) by rw [List.take_zero, List.append_nil]; exact HAp.out), (show SmE (PP ++ E.take 0) by rw [List.take_zero, List.append_nil]; exact HSm.out), HB4⟩
        case round =>
          clear HO4 HAp HSm HB4
          obtain ⟨j, hj, rfl, HO, HAp, HSm, HBq⟩ := hrel
          have hbq := HBq.out.size
          obtain ⟨uo, uq, huv2⟩ := own_shapeE HO.out
          subst huv2
          obtain ⟨x0, x1, x2, x3⟩ := HC.out _ HBq.out
          clear x0 x1 x2
          by_cases hjm : j < m
          · have hjz : (j : Int) < (m : Int) := by omega
            have hjE : j < E.length := by rw [HM.out]; exact hjm
            obtain ⟨be, oe, rfl, y0, y1⟩ := HCe.out _ HBq.out j hjE
            have HTk := Lib.hid (List.take_succ_eq_append_getElem hjE)
            have hok := HFF.out.some _ (List.getElem_mem hjE)
            have hsm := sm_of hok
            have HRp2 : Hid (r = true → ∀ y ∈ PP ++ E.take j, Apart y E[j]) := fun h => HRp.out h j hjE
            have hlU : (PP ++ E.take j).length ≤ 2000000 := by
              rw [List.length_append, List.length_take]
              have := HPl.out; have := HM.out; omega
            generalize E[j] = x at *
            clear hjE
            obtain ⟨U, hU⟩ : ∃ U, PP ++ E.take j = U := ⟨_, rfl⟩
            have HTU : Hid (PP ++ E.take (j + 1) = U ++ [x]) := by show _ = _; rw [HTk.out, ← List.append_assoc, hU]
            rw [hU] at HO HAp HSm HRp2 hlU ⊢
            clear hU HTk
            obtain ⟨xs, xc⟩ := x
            dsimp only at y0 y1 hsm
            obtain ⟨s0, s1, s2, s3⟩ := hsm
            obtain ⟨un, hun⟩ : ∃ un, U.length = un := ⟨_, rfl⟩
            have HUn := Lib.hid hun
            have HOu : Hid (wr.ownsRow w.heap.size 52 2 (.slice uo un uq) un (flatE U)) := by
              have h1 := HO.out
              unfold OwnE at h1
              rw [hun] at h1; exact h1
            have HSU : Hid (SlE wr (.slice uo un uq) U) := by rw [← hun]; exact HO.out.sl
            rw [hun] at hlU ⊢
            clear hun HO
            have hbx2 : Hid (∀ W, Below (wr.heap.size + 1) (wr.alloc (.cells #[.int .i64 xs, .int .i64 xc] 52)) W → W.cell? ⟨wr.heap.size, 0, none⟩ = some (.int .i64 xs) ∧ W.cell? ⟨wr.heap.size, 1, none⟩ = some (.int .i64 xc)) := fun W hW => by
              have e := heap_alloc_new wr (.cells #[.int .i64 xs, .int .i64 xc] 52)
              exact ⟨(hW.cell (p := ⟨wr.heap.size, 0, none⟩) (by simp)).trans (Fr.cell_at e), (hW.cell (p := ⟨wr.heap.size, 1, none⟩) (by simp)).trans (Fr.cell_at e)⟩
            obtain ⟨wo, hwo⟩ : ∃ W, W = wr := ⟨_, rfl⟩
            subst hwo
            go_wp2_with fail
            go_loopw [13] (fun qv wr => ∃ (q : Nat), q ≤ un ∧ qv = .int .i64 (q : Int) ∧ Hid (∀ i (hi : i < U.length), i < q → Apart U[i] (xs, xc)) ∧ Hid (Below (wo.heap.size + 1) (wo.alloc (.cells #[.int .i64 xs, .int .i64 xc] 52)) wr)) (fun qv _ => un - (intOf qv).toNat)
            case atStart => exact ⟨0, Nat.zero_le _, rfl, (show ∀ i (hi : i < U.length), i < 0 → Apart U[i] (xs, xc) from fun i _ h => absurd h (Nat.not_lt_zero _)), Below.refl _ _⟩
            case round =>
              obtain ⟨q, hq, rfl, HA, HBx⟩ := hrel
              obtain ⟨g0, g1⟩ := hbx2.out _ HBx.out
              have HBo : Hid (Below wo.heap.size wo wr) := ((Below.refl _ _).alloc (Nat.le_refl _) _).trans (HBx.out.mono (by omega))
              have HBw : Hid (Below w.heap.size w wr) := HBq.out.trans (HBo.out.mono hbq)
              by_cases hqu : q < un
              · have hqz : (q : Int) < (un : Int) := by omega
                have hqU : q < U.length := by rw [HUn.out]; exact hqu
                obtain ⟨uao, uac, huv3, hue⟩ := (HSU.out.below HBo.out).shape
                obtain ⟨bu, ou, huo, v0, v1⟩ := hue _ (Below.refl _ _) q hqU
                subst huo
                obtain rfl : uo = some ⟨bu, ou, none⟩ := by simp at huv3; exact huv3.1
                have hsy := HSm.out _ (List.getElem_mem hqU)
                have HRy : Hid (¬ Apart U[q] (xs, xc) → r = false) := fun h => by
                  cases r with
                  | false => rfl
                  | true => exact absurd (HRp2.out rfl _ (List.getElem_mem hqU)) h
                have HA2 : Hid (Apart U[q] (xs, xc) → ∀ i (hi : i < U.length), i < q + 1 → Apart U[i] (xs, xc)) := fun h i hi hiq => by
                  by_cases e : i = q
                  · subst e; exact h
                  · exact HA.out i hi (by omega)
                clear hue huv3 HA
                generalize U[q] = y at *
                clear hqU
                obtain ⟨ys, yc⟩ := y
                dsimp only at v0 v1 hsy
                obtain ⟨t0, t1, t2, t3⟩ := hsy
                have ww1 : IntKind.i64.wrap (ys + yc) = ys + yc := IntWalk.i64_in _ (by omega)
                have ww2 : IntKind.i64.wrap (xs + xc) = xs + xc := IntWalk.i64_in _ (by omega)
                by_cases c1 : xs < ys + yc
                · by_cases c2 : ys < xs + xc
                  · obtain rfl := HRy.out (fun h => by unfold Apart at h; dsimp only at h; omega)
                    clear HRy HA2 HRp HRp2 HR
                    go_wp2_with fail
                    go_quiet (fail)
                    have HBn := Lib.hid (below_drewN HBw.out nq)
                    go_wp2_with fail
                    go_ret
                    exact ⟨rfl, HBn.out⟩
                  · have HA3 := Lib.hid (HA2.out (by unfold Apart; dsimp only; omega))
                    clear HRy HA2
                    go_wp2_with fail
                    go_quiet (fail)
                    have HBn := Lib.hid (below_drewN HBx.out nq)
                    go_wp2_with fail
                    go_roundw
                    case rel => exact ⟨q + 1, by omega, by go_num, HA3, HBn⟩
                    case measure => simp [intOf]; omega
                · have HA3 := Lib.hid (HA2.out (by unfold Apart; dsimp only; omega))
                  have c1d : decide (xs < ys + yc) = false := decide_eq_false c1
                  clear HRy HA2
                  go_wp2_with fail
                  go_quiet (fail)
                  have HBn := Lib.hid (below_drewN HBx.out nq)
                  go_wp2_with fail
                  go_roundw
                  case rel => exact ⟨q + 1, by omega, by go_num, HA3, HBn⟩
                  case measure => simp [intOf]; omega
              · obtain rfl : q = un := by omega
                have hqz : ¬ (q : Int) < (q : Int) := by omega
                have HAll : Hid ((U ++ [(xs, xc)]).Pairwise Apart) := apart_push HAp.out (fun y hy => by
                  obtain ⟨i, hi, rfl⟩ := List.getElem_of_mem hy
                  exact HA.out i hi (by rw [← HUn.out]; exact hi))
                have HSm2 : Hid (SmE (U ++ [(xs, xc)])) := fun y hy => by
                  rcases List.mem_append.1 hy with hy | hy
                  · exact HSm.out y hy
                  · rw [List.mem_singleton.1 hy]; exact ⟨s0, s1, s2, s3⟩
                have HOw : Hid (World.ownsRow (wr.alloc (.cells #[.int .i64 xs, .int .i64 xc] 52)) w.heap.size 52 2 (.slice uo q uq) q (flatE U)) := (Go.Proofs.Ytfmnbabkdpiboaa.own_below HOu.out HBo.out).alloc _
                have hbw := HBw.out.size
                clear HA HAp HSm HOu HSU HRp2
                go_wp2_with (at_builtin; refine wpList_append_where _ rfl (.tmp 113) (.tmp 115) 48 rfl w.heap.size 52 i0 (.agg #[.int .i64 0, .int .i64 0]) 2 16 Try.underlying48 hi0 hz0 hz1 HZ2.out rfl (by omega) _ q (flatE U) rfl HOw.out ⟨wr.heap.size, 0, none⟩ 1 1 [.int .i64 xs, .int .i64 xc] rfl rfl (two_cellsE (heap_alloc_new _ _)) (two_oneE _ _) ?c2 ?c3 ?c4 ?_)
                case c2 => unfold maxLen; omega
                case c3 => omega
                case c4 => first | omega | (simp; omega)
                intro v9 w9 hown hgrow hwh
                obtain ⟨v9o, v9c, hv9⟩ := own_shapeE hown
                subst hv9
                have HV9 : Hid (OwnE w.heap.size w9 (.slice v9o (q + 1) v9c) (U ++ [(xs, xc)])) := by
                  have hl : (U ++ [(xs, xc)]).length = q + 1 := by rw [List.length_append, HUn.out]; rfl
                  show World.ownsRow _ _ _ _ _ _ _
                  rw [hl, flatE_append]; exact hown
                have HB9 : Hid (Below w.heap.size w w9) := (HBw.out.alloc hbw _).grown hgrow (by simp; omega) (fun q hq => (HOw.out.lt q hq).1)
                clear hown hgrow hwh HOw
                go_wp2_with fail
                go_roundw
                case rel => exact ⟨j + 1, by omega, by go_num, (by show OwnE _ _ _ _; rw [HTU.out]; exact HV9.out), (by show List.Pairwise _ _; rw [HTU.out]; exact HAll.out), (by show SmE _; rw [HTU.out]; exact HSm2.out), HB9⟩
                case measure => simp [intOf]; omega
          · obtain rfl : j = m := by omega
            have hjz : ¬ (j : Int) < (j : Int) := by omega
            have hTE : E.take j = E := List.take_of_length_le (by rw [HM.out]; exact Nat.le_refl _)
            have h1 := HO.out; have h2 := HAp.out; have h3 := HSm.out
            obtain ⟨UU, hUU⟩ : ∃ UU, PP ++ E.take j = UU := ⟨_, rfl⟩
            have HUU : Hid (UU = allE (L.take (k + 1))) := by show _ = _; rw [← hUU, hTE, HAk.out]
            have HR0 : Hid (Right0 (L.take (k + 1)) 0 4096) := HNx2.out (by rw [hTE] at h2; exact h2)
            rw [hUU] at HO h1 h3 ⊢
            have HO9 : Hid (OwnE w.heap.size wr (.slice uo UU.length uq) (allE (L.take (k + 1)))) := by show OwnE _ _ _ _; rw [← HUU.out]; exact h1
            have HS9 : Hid (SmE (allE (L.take (k + 1)))) := by show SmE _; rw [← HUU.out]; exact h3
            clear h1 h2 h3 hTE hUU HO HAp HSm HNx2 HRp HAk HUU
            go_wp2_with fail
            go_roundw
            case rel => exact ⟨k + 1, by omega, by go_num, HO9, HR0, HS9, HBq⟩
            case measure => simp [intOf]; omega
    · obtain rfl : k = n := by omega
      have hkz : ¬ (k : Int) < (k : Int) := by omega
      obtain rfl : r = true := HR.out.2 ⟨by rw [HN.out]; omega, by have := H0.out; rw [List.take_of_length_le (by rw [HN.out]; exact Nat.le_refl _)] at this; exact this⟩
      clear HR
      go_wp2_with fail
      go_ret
      exact ⟨rfl, HBr.out⟩
end Go.Proofs.Ytfmnbabkdpiboaa

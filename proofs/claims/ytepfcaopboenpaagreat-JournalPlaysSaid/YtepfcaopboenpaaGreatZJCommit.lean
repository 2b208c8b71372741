/- What Commit answers and leaves behind, for every journal over every device. -/
import Derived.Test.YtepfcaopboenpaaGreatZJNext
import Derived.Test.YtepfcaopboenpaaGreatZJCheck
import Derived.Test.YtepfcaopboenpaaGreatZFBase

namespace Go.Proofs.YtepfcaopboenpaaGreat
open Go.RowKit
open Fr (SlW SlS WritesAt StrsAt OwnS)

section
variable {S S1 T : Nat → Prop} {w w1 w2 w' : World} {a p : Nat} {J J1 J2 : JS} {D D1 D2 : DevS} {v : Value} {L : List (Int × ByteArray)}

theorem Outs.or_ne (h : Outs S v) (ha : ∀ g off n c, v = .slice (some ⟨g, off, none⟩) n c → g ≠ a) : Outs (fun k => S k ∨ k = a) v := fun g off n c hv hs => by
  rcases hs with hs | hs
  · exact h g off n c hv hs
  · exact ha g off n c hv hs
theorem Outs.grown {w : World} (h : Outs S v) (hl : ∀ g off n c, v = .slice (some ⟨g, off, none⟩) n c → g < w.heap.size) (hS : ∀ k, S1 k → S k ∨ w.heap.size ≤ k) : Outs S1 v := fun g off n c hv hs => by
  rcases hS g hs with h1 | h1
  · exact h g off n c hv h1
  · have := hl g off n c hv; omega
theorem JS.wrok_frame {n : Nat} (hn : n ≤ 4096) {x : Int × ByteArray} (h : J.WrOk n x) : Fr.WrOk x := by
  obtain ⟨h1, h2, h3⟩ := h
  unfold JS.home at h1
  exact ⟨by omega, by omega, h3⟩
/-- A slice that lies where there is something, and not at block a. -/
structure Lies (w : World) (a : Nat) (v : Value) : Prop where
  lt : ∀ g off n c, v = .slice (some ⟨g, off, none⟩) n c → g < w.heap.size
  ne : ∀ g off n c, v = .slice (some ⟨g, off, none⟩) n c → g ≠ a

set_option maxRecDepth 100000 in
set_option maxHeartbeats 2000000 in
theorem commit_any (hj : Jr 79 w a p J) (hd : Stands S w p D) (ha : ¬ S a) (ok : J.Ok D.disk.length) (hp : D.pend.length ≤ 700000) (hl : L.length ≤ 1000) (hs : ∀ x ∈ L, x.2.size ≤ maxLen) (h : SlW w v L) (hou : Outs S v) (hli : Lies w a v) :
    Calls Tryz.prog 27 #[.pointer (some ⟨a, 0, none⟩), v] w fun e w' => e = .returned (.int .i64 (J.commit D L).1) ∧ JLeaves 79 S w w' a p (J.commit D L).2.1 (J.commit D L).2.2 := by
  have CC := Lib.hid (jcheck_any hj hd ok hl hs h)
  have hnd := hd.ok.few
  have hsh := h
  obtain ⟨lao, lc, rfl, _⟩ := hsh
  have HJ := Lib.hid hj; clear hj
  have HD := Lib.hid hd; clear hd
  have HA := Lib.hid ha; clear ha
  have HOK := Lib.hid ok; clear ok
  have HSl := Lib.hid h; clear h
  have HOu := Lib.hid hou; clear hou
  have HLi := Lib.hid hli; clear hli
  by_cases hc : J.chk D.disk.length L = 0
  · obtain ⟨l1, l2, hw⟩ := (J.chk_ok _ L).1 hc
    have HPk : Hid (Fr.pk J.next L = (Fr.packL J.next L, 0)) := by
      show _ = _
      unfold Fr.pk
      rw [if_pos ((Fr.chk_ok L).2 ⟨l1, l2, fun x hx => JS.wrok_frame hnd (hw x hx)⟩)]
    have CP : Hid (∀ W, Below w.heap.size w W → Calls Tryz.prog 56 #[.int .u64 (J.next : Int), .slice lao L.length lc] W fun e w' => ∃ u, e = .returned (.tuple #[u, .int .i64 0]) ∧ OwnS W.heap.size w' u (Fr.packL J.next L) ∧ Below W.heap.size W w') := fun W hW => by
      have := Fr.pack_any J.next L _ W HOK.out.n64 hl hs (HSl.out.below hW)
      rw [HPk.out] at this
      exact this
    have HCm0 : Hid (J.commit D L = (fun c : Int × DevS × JS => if c.1 ≠ 0 then c else if (c.2.2.addF c.2.1 (Fr.bs (Fr.topL J.next L)) (L.map (·.2))).1 ≠ 0 then c.2.2.addF c.2.1 (Fr.bs (Fr.topL J.next L)) (L.map (·.2)) else
        (((c.2.2.addF c.2.1 (Fr.bs (Fr.topL J.next L)) (L.map (·.2))).2.1.wrs L).1, ((c.2.2.addF c.2.1 (Fr.bs (Fr.topL J.next L)) (L.map (·.2))).2.1.wrs L).2, (c.2.2.addF c.2.1 (Fr.bs (Fr.topL J.next L)) (L.map (·.2))).2.2)) (if J.left < L.length + 2 then J.ckp D else (0, D, J))) := by
      show _ = _
      unfold JS.commit
      rw [if_neg (by simpa using hc)]
    rw [hc] at CC
    have c6 := HJ.out.c6
    have HW := Lib.hid hw
    clear hc hs hw HPk
    go_enter Tryz.func27, Tryz.ntmps27
    go_wp2_with fail
    refine CC.out.mono ?_
    rintro e w1 ⟨rfl, hb1⟩
    have HB1 := Lib.hid hb1; clear hb1 CC
    have c6' := (HB1.out.cell (p := ⟨a, 6, none⟩) HJ.out.lt).trans c6
    clear c6
    go_wp2_with fail
    refine (CP.out _ HB1.out).mono ?_
    rintro e w2 ⟨u, rfl, hu2, hb2⟩
    have HB2 := Lib.hid (HB1.out.trans (hb2.mono HB1.out.size))
    obtain ⟨g, c4, hv, hcap, hgb, hg2, hst, _⟩ := hu2.here (by simp [Fr.packL])
    have hlp : (Fr.packL J.next L).length = L.length + 1 := by simp [Fr.packL]
    rw [hlp] at hv hcap
    subst hv
    have hgw : w.heap.size ≤ g := Nat.le_trans HB1.out.size hgb
    have HRow := Lib.hid hst
    have hmB := HB1.out.size
    clear hu2 hb2 hst hlp HB1 c6'
    have CL := Lib.hid (left_drew (HJ.out.below HB2.out) HOK.out hnd)
    have hlf := HOK.out.fu
    have hlog := HOK.out.l1
    have hleft : J.left = J.log - J.full := rfl
    by_cases hlt : J.left < L.length + 2
    · rw [if_pos hlt] at HCm0
      have CK : Hid (∀ W, Below w2.heap.size w2 W → Calls Tryz.prog 37 #[.pointer (some ⟨a, 0, none⟩)] W fun e w' => e = .returned (.int .i64 (J.ckp D).1) ∧ JLeaves 79 S w2 w' a p (J.ckp D).2.1 (J.ckp D).2.2) := fun W hW =>
        (ckp_any ((HJ.out.below HB2.out).below hW) ((HD.out.below HB2.out).below hW) HA.out HOK.out (by omega)).mono fun e w' ⟨he, hv⟩ => ⟨he, JLeaves.from hW hv⟩
      have HCd : Hid ((J.ckp D).2.1.disk.length = D.disk.length ∧ (J.ckp D).2.1.pend.length ≤ 710000 ∧ ((J.ckp D).1 = 0 → (J.ckp D).2.2 = J.next')) := ⟨JS.ckp_disk, by have := JS.ckp_len (J := J) (D := D); omega, JS.ckp_good⟩
      generalize J.ckp D = R1 at *
      obtain ⟨er1, D0, J0⟩ := R1
      simp only at CK HCd HCm0
      have hlt' : (J.left : Int) < (L.length : Int) + 1 + 1 := by omega
      go_wp2_with fail
      refine CL.out.mono ?_
      rintro e w3 ⟨rfl, rfl⟩
      go_wp2_with fail
      refine (CK.out _ ((Below.refl _ _).drew)).mono ?_
      rintro e w4 ⟨rfl, hv4⟩
      obtain ⟨S0, hS0, hs0, hj0, ho0⟩ := hv4
      have hS0' : ∀ k, S0 k → S k ∨ w.heap.size ≤ k := fun k hk => by rcases hS0 k hk with h | h; exact .inl h; exact .inr (by have := HB2.out.size; omega)
      have hO0' : Only (fun k => S k ∨ k = a) w w4 := (Only.of_below _ HB2.out (Nat.le_refl _)).trans ho0 (fun _ _ h => h)
      by_cases he1 : er1 = 0
      · have he1' : (er1 != 0) = false := by simp [he1]
        rw [if_neg (by simpa using he1)] at HCm0
        obtain ⟨hk1, hk2, hk3⟩ := HCd.out
        have hJ0 := hk3 he1
        have HCm := HCm0; clear HCm0
        have HJ0 := Lib.hid hj0; have HD0 := Lib.hid hs0
        have HN0 : Hid (¬ S0 a) := fun h => by rcases hS0 a h with h | h; exact HA.out h; have := (HJ.out.below HB2.out).lt; omega
        have HOK0 : Hid (J0.Ok D0.disk.length) := by show J0.Ok _; rw [hk1, hJ0]; exact HOK.out.next'
        have HDk0 := Lib.hid hk1
        have hfu0 : J0.full = 0 ∧ J0.log = J.log := by rw [hJ0]; exact ⟨rfl, rfl⟩
        have hl50 := HOK.out.l0
        have hng : ¬ (S g ∨ g = a) := fun h => by rcases h with h | h; have := HD.out.lt _ h; omega; have := HJ.out.lt; omega
        have hg0 : g < w4.heap.size := Nat.lt_of_lt_of_le hg2 ho0.size
        have HNg : Hid (¬ S0 g) := fun h => by rcases hS0 g h with h | h; exact hng (.inl h); omega
        have HRow0 : Hid (StrsAt w4 g 0 (Fr.bs (Fr.topL J.next L) :: L.map (·.2))) := fun j hj => (ho0.cell (p := ⟨g, 0 + j, none⟩) hg2 hng).trans (HRow.out j hj)
        have HSl0 : Hid (SlW w4 (.slice lao L.length lc) L) := SlW.only HSl.out hO0' (HOu.out.or_ne HLi.out.ne)
        have HOu0 : Hid (Outs S0 (.slice lao L.length lc)) := HOu.out.grown HLi.out.lt hS0'
        have HNa0 := Lib.hid HLi.out.ne
        have HLt0 : Hid (∀ g off n c, (Value.slice lao L.length lc) = .slice (some ⟨g, off, none⟩) n c → g < w4.heap.size) := fun g off n c hv => Nat.lt_of_lt_of_le (HLi.out.lt g off n c hv) hO0'.size
        have HS0 := Lib.hid hS0'; have HO0 := Lib.hid hO0'
        clear hj0 hs0 hS0 hS0' ho0 hO0' hk3 hJ0 hng CK CL HRow CP
        have hf0 : J0.full + (L.map (·.2)).length + 1 ≤ J0.log := by rw [List.length_map]; omega
        have CA := Lib.hid (add_any (ds := L.map (·.2)) (top := Fr.bs (Fr.topL J.next L)) g 0 c4 HJ0.out HD0.out HN0.out HOK0.out (by omega) (by rw [List.length_map]; omega) hf0 hg0 HRow0.out HNg.out)
        rw [List.length_map] at CA
        have HX : Hid ((J0.addF D0 (Fr.bs (Fr.topL J.next L)) (L.map (·.2))).2.1.disk.length = D.disk.length ∧ (J0.addF D0 (Fr.bs (Fr.topL J.next L)) (L.map (·.2))).2.1.pend.length ≤ 800000) := by
          refine ⟨JS.addF_disk.trans HDk0.out, ?_⟩
          have := JS.addF_len (J := J0) (D := D0) (top := Fr.bs (Fr.topL J.next L)) (ds := L.map (·.2))
          rw [List.length_map] at this
          omega
        generalize J0.addF D0 (Fr.bs (Fr.topL J.next L)) (L.map (·.2)) = R2 at *
        obtain ⟨er2, D2, J2⟩ := R2
        simp only at CA HX HCm
        go_wp2_with fail
        refine CA.out.mono ?_
        rintro e w5 ⟨rfl, hv5⟩
        obtain ⟨S5, hS5, hs5, hj5, ho5⟩ := hv5
        by_cases he2 : er2 = 0
        · have he2' : (er2 != 0) = false := by simp [he2]
          rw [if_neg (by simpa using he2)] at HCm
          have hn5 : ¬ S5 a := fun h => by rcases hS5 a h with h | h; exact HN0.out h; have := HJ0.out.lt; omega
          have hsl5 : Fr.SlW w5 (.slice lao L.length lc) L := SlW.only HSl0.out ho5 (HOu0.out.or_ne HNa0.out)
          have hou5 : Outs S5 (.slice lao L.length lc) := HOu0.out.grown HLt0.out hS5
          have CW := Lib.hid (writeAll_any hj5 hs5 hn5 (by omega) (by have := HX.out.2; omega) hsl5 hou5)
          have HF : Hid (∀ w' , Leaves S5 w5 w' p (D2.wrs L).2 → JLeaves 79 S w w' a p (D2.wrs L).2 J2) := fun w' h => JLeaves.next HS0.out HO0.out (JLeaves.next hS5 ho5 (JLeaves.of h hj5 hn5))
          clear hS5 hs5 hj5 ho5 hn5 hsl5 hou5
          go_wp2_with fail
          refine CW.out.mono ?_
          rintro e w6 ⟨rfl, hv6⟩
          have HF2 := Lib.hid (HF.out _ hv6); clear hv6
          go_wp2
          go_ret
          exact ⟨by rw [HCm.out]; rfl, by rw [HCm.out]; exact HF2.out⟩
        · have he2' : (er2 != 0) = true := by simp [he2]
          rw [if_pos (by simpa using he2)] at HCm
          have HF : Hid (JLeaves 79 S w w5 a p D2 J2) := JLeaves.next HS0.out HO0.out ⟨S5, hS5, hs5, hj5, ho5⟩
          clear hS5 hs5 hj5 ho5
          go_wp2
          go_ret
          exact ⟨by rw [HCm.out]; rfl, by rw [HCm.out]; exact HF.out⟩
      · have he1' : (er1 != 0) = true := by simp [he1]
        rw [if_pos (by simpa using he1)] at HCm0
        have HF : Hid (JLeaves 79 S w w4 a p D0 J0) := ⟨S0, hS0', hs0, hj0, hO0'⟩
        clear hS0 hs0 hj0 ho0 hS0' hO0'
        go_wp2
        go_ret
        exact ⟨by rw [HCm0.out]; rfl, by rw [HCm0.out]; exact HF.out⟩
    · rw [if_neg hlt] at HCm0
      have HCm : Hid (J.commit D L = if (J.addF D (Fr.bs (Fr.topL J.next L)) (L.map (·.2))).1 ≠ 0 then J.addF D (Fr.bs (Fr.topL J.next L)) (L.map (·.2)) else
        (((J.addF D (Fr.bs (Fr.topL J.next L)) (L.map (·.2))).2.1.wrs L).1, ((J.addF D (Fr.bs (Fr.topL J.next L)) (L.map (·.2))).2.1.wrs L).2, (J.addF D (Fr.bs (Fr.topL J.next L)) (L.map (·.2))).2.2)) := HCm0.out
      clear HCm0
      have hlt' : ¬ (J.left : Int) < (L.length : Int) + 1 + 1 := by omega
      go_wp2_with fail
      refine CL.out.mono ?_
      rintro e w3 ⟨rfl, rfl⟩
      obtain ⟨w4, hw4⟩ : ∃ W, w2.drew = W := ⟨_, rfl⟩
      have hb4 : Below w2.heap.size w2 w4 := by rw [← hw4]; exact (Below.refl _ _).drew
      have hB4 : Below w.heap.size w w4 := HB2.out.trans (hb4.mono HB2.out.size)
      rw [hw4]
      clear hw4
      have HJ0 : Hid (Jr 79 w4 a p J) := HJ.out.below hB4
      have HD0 : Hid (Stands S w4 p D) := HD.out.below hB4
      have HN0 := HA
      have HOK0 := HOK
      have HDk0 : Hid (D.disk.length = D.disk.length) := rfl
      have hng : ¬ S g := fun h => by have := HD.out.lt _ h; omega
      have HNg := Lib.hid hng
      have hg0 : g < w4.heap.size := Nat.lt_of_lt_of_le hg2 hb4.size
      have HRow0 : Hid (StrsAt w4 g 0 (Fr.bs (Fr.topL J.next L) :: L.map (·.2))) := fun j hj => (hb4.cell (p := ⟨g, 0 + j, none⟩) hg2).trans (HRow.out j hj)
      have HSl0 : Hid (SlW w4 (.slice lao L.length lc) L) := HSl.out.below hB4
      have HOu0 := HOu
      have HNa0 := Lib.hid HLi.out.ne
      have HLt0 : Hid (∀ g off n c, (Value.slice lao L.length lc) = .slice (some ⟨g, off, none⟩) n c → g < w4.heap.size) := fun g off n c hv => Nat.lt_of_lt_of_le (HLi.out.lt g off n c hv) hB4.size
      have HS0 : Hid (∀ k, S k → S k ∨ w.heap.size ≤ k) := fun _ h => .inl h
      have HO0 : Hid (Only (fun k => S k ∨ k = a) w w4) := Only.of_below _ hB4 (Nat.le_refl _)
      clear hng hb4 hB4 CL HRow CP
      have hf0 : J.full + (L.map (·.2)).length + 1 ≤ J.log := by rw [List.length_map]; omega
      have CA := Lib.hid (add_any (ds := L.map (·.2)) (top := Fr.bs (Fr.topL J.next L)) g 0 c4 HJ0.out HD0.out HN0.out HOK0.out (by omega) (by rw [List.length_map]; omega) hf0 hg0 HRow0.out HNg.out)
      rw [List.length_map] at CA
      have HX : Hid ((J.addF D (Fr.bs (Fr.topL J.next L)) (L.map (·.2))).2.1.disk.length = D.disk.length ∧ (J.addF D (Fr.bs (Fr.topL J.next L)) (L.map (·.2))).2.1.pend.length ≤ 800000) := by
        refine ⟨JS.addF_disk.trans HDk0.out, ?_⟩
        have := JS.addF_len (J := J) (D := D) (top := Fr.bs (Fr.topL J.next L)) (ds := L.map (·.2))
        rw [List.length_map] at this
        omega
      generalize J.addF D (Fr.bs (Fr.topL J.next L)) (L.map (·.2)) = R2 at *
      obtain ⟨er2, D2, J2⟩ := R2
      simp only at CA HX HCm
      go_wp2_with fail
      refine CA.out.mono ?_
      rintro e w5 ⟨rfl, hv5⟩
      obtain ⟨S5, hS5, hs5, hj5, ho5⟩ := hv5
      by_cases he2 : er2 = 0
      · have he2' : (er2 != 0) = false := by simp [he2]
        rw [if_neg (by simpa using he2)] at HCm
        have hn5 : ¬ S5 a := fun h => by rcases hS5 a h with h | h; exact HN0.out h; have := HJ0.out.lt; omega
        have hsl5 : Fr.SlW w5 (.slice lao L.length lc) L := SlW.only HSl0.out ho5 (HOu0.out.or_ne HNa0.out)
        have hou5 : Outs S5 (.slice lao L.length lc) := HOu0.out.grown HLt0.out hS5
        have CW := Lib.hid (writeAll_any hj5 hs5 hn5 (by omega) (by have := HX.out.2; omega) hsl5 hou5)
        have HF : Hid (∀ w' , Leaves S5 w5 w' p (D2.wrs L).2 → JLeaves 79 S w w' a p (D2.wrs L).2 J2) := fun w' h => JLeaves.next HS0.out HO0.out (JLeaves.next hS5 ho5 (JLeaves.of h hj5 hn5))
        clear hS5 hs5 hj5 ho5 hn5 hsl5 hou5
        go_wp2_with fail
        refine CW.out.mono ?_
        rintro e w6 ⟨rfl, hv6⟩
        have HF2 := Lib.hid (HF.out _ hv6); clear hv6
        go_wp2
        go_ret
        exact ⟨by rw [HCm.out]; rfl, by rw [HCm.out]; exact HF2.out⟩
      · have he2' : (er2 != 0) = true := by simp [he2]
        rw [if_pos (by simpa using he2)] at HCm
        have HF : Hid (JLeaves 79 S w w5 a p D2 J2) := JLeaves.next HS0.out HO0.out ⟨S5, hS5, hs5, hj5, ho5⟩
        clear hS5 hs5 hj5 ho5
        go_wp2
        go_ret
        exact ⟨by rw [HCm.out]; rfl, by rw [HCm.out]; exact HF.out⟩
  · have HCm : Hid (J.commit D L = ((J.chk D.disk.length L : Int), D, J)) := by show _ = _; unfold JS.commit; rw [if_pos (by simpa using hc)]
    have hne : (((J.chk D.disk.length L : Nat) : Int) != 0) = true := by simp; omega
    have HF : Hid (∀ w', Below w.heap.size w w' → JLeaves 79 S w w' a p D J) := fun w' hb => (JLeaves.refl HD.out HJ.out).below hb
    generalize J.chk D.disk.length L = er at *
    clear hc hs
    go_enter Tryz.func27, Tryz.ntmps27
    go_wp2_with fail
    refine CC.out.mono ?_
    rintro e w1 ⟨rfl, hb1⟩
    have HF2 := Lib.hid (HF.out _ hb1); clear hb1 CC
    go_wp2
    go_ret
    exact ⟨by rw [HCm.out]; rfl, by rw [HCm.out]; exact HF2.out⟩
end
end Go.Proofs.YtepfcaopboenpaaGreat

/- What Open answers and leaves behind, for every device. -/
import Derived.Test.YtodfcbpimglhdaaJFind
import Derived.Test.YtodfcbpimglhdaaJRedo
namespace Go.Proofs.Ytodfcbpimglhdaa
open Go.RowKit

section
variable {S : Nat → Prop} {w w' : World} {a p : Nat} {J : JS} {D : DevS}

/-- What Open leaves: an error and nil, or a new journal. -/
def Opened (t : TypeId) (S : Nat → Prop) (w w' : World) (p : Nat) (r : Int × DevS × Option JS) (e : Ending) : Prop :=
  ∃ S' : Nat → Prop, (∀ k, S' k → S k ∨ w.heap.size ≤ k) ∧ Stands S' w' p r.2.1 ∧ Only S w w' ∧
    (match r.2.2 with
    | none => e = .returned (.tuple #[.pointer none, .int .i64 r.1])
    | some J => ∃ a, e = .returned (.tuple #[.pointer (some ⟨a, 0, none⟩), .int .i64 r.1]) ∧ w.heap.size ≤ a ∧ ¬ S' a ∧ Jr t w' a p J)

theorem rdSlot_ok {t : ByteArray} {n : Nat} {x : Nat × Nat × Nat × Nat} (h : rdSlot t n = some x) : 50 ≤ x.2.2.1 ∧ x.2.2.1 + 3 ≤ n ∧ x.2.2.2 < x.2.2.1 ∧ x.1 < 18446744073709551616 ∧ x.2.1 < 18446744073709551616 := by
  obtain ⟨⟨h1, h2, h3, _⟩, rfl⟩ := (rdSlot_iff t n x).1 h
  exact ⟨h1, h2, h3, wideAt_lt _ _, wideAt_lt _ _⟩
theorem find_ok (h : D.find = some J) : J.Ok D.disk.length ∧ J.full = 0 := by
  have hs : ∀ i x, i ≤ 1 → D.slotAt i = some x → (slotJ x i).Ok D.disk.length ∧ (slotJ x i).full = 0 := by
    intro i x hi hx
    unfold DevS.slotAt at hx
    split at hx
    · obtain ⟨h1, h2, h3, h4, h5⟩ := rdSlot_ok hx
      exact ⟨⟨h1, h2, h3, hi, Nat.zero_le _, h4, h5, h5⟩, rfl⟩
    · cases hx
  unfold DevS.find at h
  split at h
  · cases h
  · rename_i x h0 h1; cases h; exact hs 0 x (by omega) h0
  · rename_i x h0 h1; cases h; exact hs 1 x (by omega) h1
  · rename_i x y h0 h1
    split at h
    · cases h; exact hs 1 y (by omega) h1
    · cases h; exact hs 0 x (by omega) h0


theorem redoN_keeps (m : Nat) : ∀ (J : JS) (D : DevS), J.Ok D.disk.length → (J.redoN D m).2.1.disk.length = D.disk.length ∧ (J.redoN D m).2.2.Ok D.disk.length ∧ (J.redoN D m).2.1.pend.length + (J.redoN D m).2.2.left ≤ D.pend.length + J.left := by
  induction m with
  | zero => intro J D ok; exact ⟨rfl, ok, Nat.le_refl _⟩
  | succ m ih =>
    intro J D ok
    cases hfr : J.frameOf D with
    | none => rw [redoN_none m hfr]; exact ⟨rfl, ok, Nat.le_refl _⟩
    | some ws =>
      obtain ⟨f1, f2, f3, _⟩ := frameOf_some hfr
      have hl := ok.fu
      have ok2 : (J.grow (ws.length + 1)).Ok D.disk.length := ok.grow _ (by unfold JS.left at f3; omega)
      have hl2 : (J.grow (ws.length + 1)).left = J.left - (ws.length + 1) := by unfold JS.left JS.grow; simp only; omega
      have hw := D.wrs_len ws
      have hd := D.wrs_disk ws
      rw [redoN_some m hfr]
      split
      · refine ⟨by rw [hd], ok2, ?_⟩
        show (D.wrs ws).2.pend.length + (J.grow (ws.length + 1)).left ≤ _
        rw [hl2]; omega
      · have := ih (J.grow (ws.length + 1)) (D.wrs ws).2 (by rw [hd]; exact ok2)
        rw [hd] at this
        refine ⟨this.1, this.2.1, ?_⟩
        have := this.2.2
        rw [hl2] at this
        omega
/-- From what a call on the new journal leaves to what Open leaves. -/
theorem opened_of {X : World} {D' : DevS} {J' : JS} (hd : Stands S w p D) (hXb : Below w.heap.size w X) (hX : w.heap.size < X.heap.size) (h : JLeaves 85 S X w' w.heap.size p D' J') :
    ∃ S' : Nat → Prop, (∀ k, S' k → S k ∨ w.heap.size ≤ k) ∧ Stands S' w' p D' ∧ Only S w w' ∧ ¬ S' w.heap.size ∧ Jr 85 w' w.heap.size p J' := by
  obtain ⟨S', hS', hs, hj, ho⟩ := h
  refine ⟨S', fun k hk => ?_, hs, ?_, fun h => ?_, hj⟩
  · rcases hS' k hk with h | h
    · exact .inl h
    · exact .inr (by omega)
  · exact (Only.of_below S hXb (Nat.le_refl _)).trans ho (fun i hi h => by rcases h with h | h; exact h; omega)
  · rcases hS' _ h with h | h
    · have := hd.lt _ h; omega
    · omega

set_option maxRecDepth 100000 in
set_option maxHeartbeats 2000000 in
theorem open_any (hd : Stands S w p D) (hp : D.pend.length ≤ 600000) :
    Calls Try.prog 16 #[.pointer (some ⟨p, 0, none⟩)] w fun e w' => Opened 85 S w w' p D.opn e := by
  have hlt := hd.lt
  have hnd := hd.ok.few
  obtain ⟨X, hX⟩ : ∃ X, w.alloc (.cells #[.pointer (some ⟨p, 0, none⟩), .int .u64 0, .int .u64 0, .int .i64 0, .int .i64 0, .int .i64 0, .int .u64 0, .int .i64 0] 85) = X := ⟨_, rfl⟩
  have hXb : Below w.heap.size w X := by rw [← hX]; exact (Below.refl _ _).alloc (Nat.le_refl _) _
  have hXj : Jr 85 X w.heap.size p ⟨0, 0, 0, 0, 0, 0, 0⟩ := by unfold Jr; rw [← hX]; exact heap_alloc_new ..
  have hXs := hd.below hXb
  have hXz := hXj.lt
  have hna : ¬ S w.heap.size := fun h => by have := hlt _ h; omega
  have HX := Lib.hid hX; clear hX
  have HXB := Lib.hid hXb; have HD := Lib.hid hd
  cases hde : D.dead with
  | true =>
    have HO : Hid (D.opn = (4, D, none)) := by show _ = _; unfold DevS.opn; rw [hde]; rfl
    have CF := Lib.hid (find_dead hXj hXs hde (by omega))
    clear hXj hXs hna hde hlt hd hXb
    go_enter Try.func16, Try.ntmps16
    go_wp2_with fail
    rw [HX.out]
    refine CF.out.mono ?_
    rintro e w1 ⟨rfl, hb1⟩
    have HB1 : Hid (Below w.heap.size w w1) := HXB.out.trans (hb1.mono HXB.out.size)
    clear hb1
    go_wp2
    go_ret2
    unfold Opened
    rw [HO.out]
    exact ⟨S, fun _ => .inl, HD.out.below HB1.out, Only.of_below _ HB1.out (Nat.le_refl _), rfl⟩
  | false =>
    have CF := Lib.hid (find_live hXj hXs hna hde (by omega))
    cases hf : D.find with
    | none =>
      have HO : Hid (D.opn = (10, D, none)) := by show _ = _; unfold DevS.opn; rw [hde, hf]; rfl
      have HF := Lib.hid hf
      clear hXj hXs hna hde hlt hd hXb hf
      go_enter Try.func16, Try.ntmps16
      go_wp2_with fail
      rw [HX.out]
      refine CF.out.mono ?_
      rintro e w1 ⟨ho1, hp1, _⟩
      have he := hp1 HF.out
      subst he
      have HO1 : Hid (Only S w w1) := (Only.of_below S HXB.out (Nat.le_refl _)).trans ho1 (fun i hi h => by omega)
      have HS1 : Hid (Stands S w1 p D) := (HD.out.below HXB.out).kept ho1 (fun k hk hka => by have := HD.out.lt _ hk; omega)
      clear ho1 hp1 CF
      go_wp2
      go_ret2
      unfold Opened
      rw [HO.out]
      exact ⟨S, fun _ => .inl, HS1.out, HO1.out, rfl⟩
    | some J =>
      obtain ⟨hok, hfu⟩ := find_ok hf
      have HF := Lib.hid hf
      have HOp : Hid (D.opn = if (J.redo D).1 ≠ 0 then ((J.redo D).1, (J.redo D).2.1, none) else if ((J.redo D).2.2.ckp (J.redo D).2.1).1 ≠ 0 then (((J.redo D).2.2.ckp (J.redo D).2.1).1, ((J.redo D).2.2.ckp (J.redo D).2.1).2.1, none) else (0, ((J.redo D).2.2.ckp (J.redo D).2.1).2.1, some ((J.redo D).2.2.ckp (J.redo D).2.1).2.2)) := by
        show _ = _; unfold DevS.opn; rw [hde, hf]; rfl
      have hkp : (J.redo D).2.1.disk.length = D.disk.length ∧ (J.redo D).2.2.Ok D.disk.length ∧ (J.redo D).2.1.pend.length ≤ 700000 := by
        have h := redoN_keeps (J.log + 1) J D hok
        refine ⟨h.1, h.2.1, ?_⟩
        have h3 := h.2.2
        have := hok.l1
        have h4 : J.left ≤ 4096 := by unfold JS.left; omega
        show (J.redoN D (J.log + 1)).2.1.pend.length ≤ _
        omega
      have HK := Lib.hid hkp
      have HXS := Lib.hid hXs; have HNA := Lib.hid hna
      have HDE := Lib.hid hde; have HOK := Lib.hid hok
      clear hXj hXs hna hde hlt hd hXb hf hok hfu hkp
      go_enter Try.func16, Try.ntmps16
      go_wp2_with fail
      rw [HX.out]
      refine CF.out.mono ?_
      rintro e w1 ⟨ho1, _, hp1⟩
      obtain ⟨he, hj1⟩ := hp1 J HF.out
      subst he
      have hs1 : Stands S w1 p D := HXS.out.kept ho1 (fun k hk hka => HNA.out (hka ▸ hk))
      have CR := Lib.hid (redo_any hj1 hs1 HNA.out HOK.out HDE.out (by omega))
      have HO1 : Hid (∀ w2 D2 J2, JLeaves 85 S w1 w2 w.heap.size p D2 J2 → JLeaves 85 S X w2 w.heap.size p D2 J2) := fun w2 D2 J2 h => JLeaves.next (fun _ h => .inl h) (ho1.mono (fun _ _ h => .inr h)) h
      clear ho1 hp1 hj1 hs1 CF
      generalize J.redo D = R1 at *
      obtain ⟨er1, D1, J1⟩ := R1
      simp only at HOp HK CR
      go_wp2_with fail
      refine CR.out.mono ?_
      rintro e w2 ⟨rfl, hv2⟩
      have HV2 := Lib.hid (HO1.out _ _ _ hv2)
      clear hv2 CR HO1
      by_cases he1 : er1 = 0
      · have he1' : (er1 != 0) = false := by simp [he1]
        rw [if_neg (by simpa using he1)] at HOp
        obtain ⟨S2, hS2, hs2, hj2, ho2⟩ := HV2.out
        have hna2 : ¬ S2 w.heap.size := fun h => by rcases hS2 _ h with h | h; exact HNA.out h; omega
        have CK := Lib.hid (ckp_any hj2 hs2 hna2 (by rw [HK.out.1]; exact HK.out.2.1) (by have := HK.out.2.2; omega))
        have HV3 : Hid (∀ w3 D3 J3, JLeaves 85 S2 w2 w3 w.heap.size p D3 J3 → JLeaves 85 S X w3 w.heap.size p D3 J3) := fun w3 D3 J3 h => JLeaves.next hS2 ho2 h
        clear hS2 hs2 hj2 ho2 hna2 HV2
        generalize J1.ckp D1 = R2 at *
        obtain ⟨er2, D2, J2⟩ := R2
        simp only at HOp CK
        go_wp2_with fail
        refine CK.out.mono ?_
        rintro e w3 ⟨rfl, hv3⟩
        have HV := Lib.hid (HV3.out _ _ _ hv3)
        clear hv3 CK HV3
        by_cases he2 : er2 = 0
        · have he2' : (er2 != 0) = false := by simp [he2]
          rw [if_neg (by simpa using he2)] at HOp
          go_wp2
          go_ret2
          obtain ⟨S3, h1, h2, h3, h4, h5⟩ := opened_of HD.out HXB.out hXz HV.out
          unfold Opened
          rw [HOp.out]
          exact ⟨S3, h1, h2, h3, w.heap.size, rfl, Nat.le_refl _, h4, h5⟩
        · have he2' : (er2 != 0) = true := by simp [he2]
          rw [if_pos (by simpa using he2)] at HOp
          go_wp2
          go_ret2
          obtain ⟨S3, h1, h2, h3, h4, h5⟩ := opened_of HD.out HXB.out hXz HV.out
          unfold Opened
          rw [HOp.out]
          exact ⟨S3, h1, h2, h3, rfl⟩
      · have he1' : (er1 != 0) = true := by simp [he1]
        rw [if_pos (by simpa using he1)] at HOp
        go_wp2
        go_ret2
        obtain ⟨S3, h1, h2, h3, h4, h5⟩ := opened_of HD.out HXB.out hXz HV2.out
        unfold Opened
        rw [HOp.out]
        exact ⟨S3, h1, h2, h3, rfl⟩
end
end Go.Proofs.Ytodfcbpimglhdaa

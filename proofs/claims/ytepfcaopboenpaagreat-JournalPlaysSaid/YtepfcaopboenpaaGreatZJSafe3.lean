/- A commit, and Open, at whatever turn the power goes: in plain lists. -/
import Derived.Test.YtepfcaopboenpaaGreatZJRedo
import Derived.Test.YtepfcaopboenpaaGreatZJNext

namespace Go.Proofs.YtepfcaopboenpaaGreat
open Go.RowKit
open Fr (bs fixL nmAt headB topL unp WrOk packL)

section
variable {N n : Nat} {J : JS} {D : DevS} {H : Nat → ByteArray} {F : List (List Wr)} {L : List Wr}

theorem vN_unique {P : List (Nat × ByteArray)} {g : Nat → ByteArray} {x : Nat × ByteArray} (hx : x ∈ P) (hu : ∀ y ∈ P, y.1 = x.1 → y = x) : vN P g x.1 = x.2 := by
  unfold vN
  cases hf : P.reverse.find? (fun y => y.1 == x.1) with
  | none =>
    rw [List.find?_eq_none] at hf
    have := hf x (List.mem_reverse.2 hx)
    simp at this
  | some y =>
    have h1 := List.mem_reverse.1 (List.mem_of_find?_eq_some hf)
    have h2 : y.1 = x.1 := by simpa using List.find?_some hf
    simp only [hu y h1 h2]
theorem dataP (J : JS) (ds : List ByteArray) : natW (J.dataW ds) = (List.range (ds.length + 1)).map fun j => (J.pos (j + 1), (ds ++ [noughts]).getD j ByteArray.empty) := by
  unfold natW JS.dataW
  rw [List.map_append, List.map_map, List.range_succ, List.map_append]
  congr 1
  · apply List.map_congr_left
    intro i hi
    have : i < ds.length := List.mem_range.1 hi
    simp [List.getD, List.getElem?_append_left this]
  · simp [List.getD]
theorem pos_off (J : JS) (j : Nat) : J.pos j = 2 + (J.p + (J.full + j)) % J.log := by unfold JS.pos; rw [Nat.add_assoc]
theorem dataP_harm (h : J.full + L.length + 2 ≤ J.log) (x : Nat × ByteArray) (hx : x ∈ natW (J.dataW (L.map (·.2)))) : ∃ o, J.full < o ∧ o < J.log ∧ x.1 = 2 + (J.p + o) % J.log := by
  rw [dataP] at hx
  obtain ⟨j, hj, rfl⟩ := List.mem_map.1 hx
  have hj' := List.mem_range.1 hj
  rw [List.length_map] at hj'
  exact ⟨J.full + (j + 1), by omega, by omega, pos_off J (j + 1)⟩
theorem pos_ne (ok : J.Ok n) (i j : Nat) (hi : J.full + i < J.log) (hj : J.full + j < J.log) (h : i ≠ j) : J.pos i ≠ J.pos j := by
  rw [pos_off, pos_off]
  have := mod_ne J.p J.log (J.full + i) (J.full + j) hi hj (by omega)
  omega
theorem dataP_at (ok : J.Ok n) (h : J.full + L.length + 2 ≤ J.log) (Q : List (Nat × ByteArray)) (g : Nat → ByteArray) (j : Nat) (hj : j ≤ L.length) :
    vN (Q ++ natW (J.dataW (L.map (·.2)))) g (J.pos (j + 1)) = (L.map (·.2) ++ [noughts]).getD j ByteArray.empty := by
  rw [vN_append, dataP]
  refine vN_unique (x := (J.pos (j + 1), (L.map (·.2) ++ [noughts]).getD j ByteArray.empty)) (List.mem_map.2 ⟨j, List.mem_range.2 (by rw [List.length_map]; omega), rfl⟩) ?_
  intro y hy he
  obtain ⟨i, hi, rfl⟩ := List.mem_map.1 hy
  have hi' := List.mem_range.1 hi
  rw [List.length_map] at hi'
  by_cases e : i = j
  · rw [e]
  · exact absurd he (pos_ne ok (i + 1) (j + 1) (by omega) (by omega) (by omega))

/-- What a commit makes of home. -/
def put (H : Nat → ByteArray) (L : List Wr) : Nat → ByteArray := vN (natW L) H
theorem good_grow {g g' : Nat → ByteArray} (h : Good N g n J F) (hN : N + 1 < 1000000) (hc : J.chk n L = 0) (hr : J.full + L.length + 2 ≤ J.log) (hold : Older (g' (1 - J.side)) J.e) (h0 : g' J.side = g J.side)
    (hl : ∀ o, o < J.full → g' (2 + (J.p + o) % J.log) = g (2 + (J.p + o) % J.log)) (ht : g' (J.pos 0) = bs (topL J.next L)) (hd : ∀ j (hj : j < L.length), g' (J.pos (j + 1)) = L[j].2) (hz : g' (J.pos (L.length + 1)) = noughts) :
    Good (N + 1) g' n (J.grow (L.length + 1)) (F ++ [L]) ∧ g' ((J.grow (L.length + 1)).pos 0) = noughts := by
  have hb := h.bnd
  have en : (J.grow (L.length + 1)).next = J.next + 1 := Nat.mod_eq_of_lt (by omega)
  have ez : (J.grow (L.length + 1)).pos 0 = J.pos (L.length + 1) := by
    show 2 + (J.p + (J.full + (L.length + 1)) + 0) % J.log = _
    rw [Nat.add_zero, pos_off]
  have ok' := h.ok.grow (L.length + 1) (by omega)
  refine ⟨⟨ok', h.n4, h.lg, hN, ⟨by show J.e ≤ _; omega, by rw [en]; omega⟩, by rw [en, h.next, List.length_append]; rfl, by show J.full + (L.length + 1) = _; rw [fsz_append, h.full]; rfl, by show J.full + (L.length + 1) + 1 ≤ J.log; omega, h0.trans h.here, ?_, ?_, ?_, by rw [ez, hz]; exact headB_noughts⟩, by rw [ez]; exact hz⟩
  · refine ⟨g' (1 - J.side), 0, Nat.zero_le _, hold, by rw [layB_none]; rfl, fun e => ?_⟩
    have hp' := ok'.pos_lt 0
    have hll : (J.grow (L.length + 1)).log = J.log := rfl
    rw [hll] at hp'
    have hlg := h.lg
    have h128 : (g' (1 - J.side)).data.toList.drop 128 = halfL (J.e + 1) (J.grow (L.length + 1)).next J.log ((J.grow (L.length + 1)).pos 0 - 2) := by
      have e' : g' (1 - J.side) = slotB (J.e + 1) (J.grow (L.length + 1)).next J.log ((J.grow (L.length + 1)).pos 0 - 2) := e
      rw [e']
      show (halfL _ _ _ _ ++ halfL _ _ _ _).drop 128 = _
      rw [List.drop_left' (halfL_len ..)]
    have := hold.2 _ _ _ _ (by omega) (by rw [en]; omega) (by omega) (by omega) h128
    omega
  · have hl0 : LaidF g' J.log J.p 0 J.s F := h.laid.congr (fun i _ hi => hl i (by rw [h.full]; omega))
    refine hl0.snoc L ?_ ?_
    · rw [Nat.zero_add, ← h.full, ← h.next]
      have := pos_off J 0
      rw [Nat.add_zero] at this
      rw [← this]; exact ht
    · intro j hj
      rw [Nat.zero_add, ← h.full, Nat.add_assoc, ← pos_off]
      exact hd j hj
  · intro f hf
    rw [chk_log (J := J.grow (L.length + 1)) (K := J) rfl]
    rcases List.mem_append.1 hf with hf | hf
    · exact h.fine f hf
    · simp at hf; subst hf; exact hc
theorem flat_snoc (F : List (List Wr)) (L : List Wr) : natW (F ++ [L]).flatten = natW F.flatten ++ natW L := by
  rw [List.flatten_append, natW_append]; simp

/-- A commit for which there is room: the log first, then home. -/
theorem add_safe (h : Sync N n J D H F) (hN : N + 1 < 1000000) (hc : J.chk n L = 0) (hr : J.full + L.length + 2 ≤ J.log) (R : Int × DevS × JS) (hR : R = J.addF D (bs (topL J.next L)) (L.map (·.2))) :
    (R.1 = 4 ∧ R.2.1.dead = true ∧ R.2.1.Ok ∧ R.2.1.disk.length = n ∧ Safe (N + 1) n R.2.1 (fun X => X = H ∨ X = put H L)) ∨
    (R.1 = 0 ∧ R.2.2 = J.grow (L.length + 1) ∧ (((R.2.1.wrs L).1 = 0 ∧ Sync (N + 1) n (J.grow (L.length + 1)) (R.2.1.wrs L).2 (put H L) (F ++ [L])) ∨ ((R.2.1.wrs L).1 = 4 ∧ (R.2.1.wrs L).2.dead = true ∧ (R.2.1.wrs L).2.Ok ∧ (R.2.1.wrs L).2.disk.length = n ∧ Safe (N + 1) n (R.2.1.wrs L).2 (fun X => X = H ∨ X = put H L)))) := by
  have hp := h.pre
  have hg := hp.good
  have hb := hg.bnd; have hlg := hg.lg; have hs := hg.ok.si; have hp0 := hg.ok.pos_lt 0; have hl1 := hg.ok.l1; have h4 := hg.n4
  obtain ⟨l1, l2, hw⟩ := (J.chk_ok n L).1 hc
  have hw' : ∀ x ∈ L, Fr.WrOk x := fun x hx => JS.wrok_frame h4 (hw x hx)
  have hhome : J.home = 52 := by unfold JS.home; omega
  have htop : (bs (topL J.next L)).size = 256 := by rw [Fr.bs_len, Fr.topL_len _ _ l2]
  have hnl : ∀ x ∈ natW L, 52 ≤ x.1 ∧ x.1 < n ∧ x.2.size = 256 := by
    intro x hx
    obtain ⟨y, hy, rfl⟩ := List.mem_map.1 hx
    obtain ⟨a, b, c⟩ := hw y hy
    rw [hhome] at a
    exact ⟨by simp only; omega, by simp only; omega, c⟩
  have hfitL : Fit n L := fun x hx => by obtain ⟨a, b, c⟩ := hw x hx; rw [hhome] at a; exact ⟨by omega, by omega, c⟩
  have hdat : ∀ x ∈ natW (J.dataW (L.map (·.2))), x.1 < n ∧ x.2.size = 256 := by
    intro x hx
    obtain ⟨o, _, _, ho⟩ := dataP_harm hr x hx
    have hm := Nat.mod_lt (J.p + o) (show 0 < J.log by omega)
    refine ⟨by omega, ?_⟩
    rw [dataP] at hx
    obtain ⟨j, hj, rfl⟩ := List.mem_map.1 hx
    have hj' := List.mem_range.1 hj
    rw [List.length_map] at hj'
    by_cases hjl : j < L.length
    · simp [List.getD, List.getElem?_append_left, hjl]
      exact (hw _ (List.getElem_mem hjl)).2.2
    · have : j = L.length := by omega
      subst this
      simp [List.getD, noughts_size]
  have hfit1 : Fit D.disk.length (J.dataW (L.map (·.2))) := by
    intro x hx
    have h1 : (x.1.toNat, x.2) ∈ natW (J.dataW (L.map (·.2))) := List.mem_map.2 ⟨x, hx, rfl⟩
    have h2 := hdat _ h1
    have h3 : 0 ≤ x.1 := by
      unfold JS.dataW at hx
      rcases List.mem_append.1 hx with hx | hx
      · obtain ⟨i, _, rfl⟩ := List.mem_map.1 hx; simp only; omega
      · simp at hx; subst hx; simp only; omega
    rw [hp.len]
    exact ⟨h3, by have := h2.1; simp only at this; omega, h2.2⟩
  have hlow : ∀ x ∈ D.pend, ∀ b, b < 52 → x.1 ≠ b := fun x hx b hb => by have := (hp.pend x hx).1; omega
  have hoff : ∀ o, 2 + (J.p + o) % J.log < 52 := fun o => by have := Nat.mod_lt (J.p + o) (show 0 < J.log by omega); omega
  subst hR
  unfold JS.addF
  simp only
  rcases stl_cases D _ hp.live hfit1 with ⟨a1, a2, a3, a4⟩ | ⟨a1, a2, a3, k, hk, a4⟩
  · rw [if_neg (by rw [a1]; simp)]
    have ok1 : (D.stl (J.dataW (L.map (·.2)))).2.Ok := stl_ok hp.dok hfit1
    generalize hD1 : (D.stl (J.dataW (L.map (·.2)))).2 = D1 at *
    have hpp : ∀ x ∈ D.pend ++ natW (J.dataW (L.map (·.2))), x.1 < D.disk.length ∧ x.2.size = 256 := by
      intro x hx
      rcases List.mem_append.1 hx with hx | hx
      · exact hp.dok.pends x hx
      · rw [hp.len]; exact hdat x hx
    have len1 : D1.disk.length = n := by rw [a3, laidTo_length]; exact hp.len
    have g1 : ∀ b, b < n → gd D1.disk b = vN (D.pend ++ natW (J.dataW (L.map (·.2)))) (gd D.disk) b := fun b hb => by
      rw [a3]; exact laid256 b (by rw [hp.len]; exact hb) hp.dok.whole hpp
    have g1d : ∀ j, j ≤ L.length → gd D1.disk (J.pos (j + 1)) = (L.map (·.2) ++ [noughts]).getD j ByteArray.empty := fun j hj => by
      have := hg.ok.pos_lt (j + 1)
      rw [g1 _ (by omega)]; exact dataP_at hg.ok hr D.pend _ j hj
    have g1l : ∀ b, b < 52 → (∀ o, J.full < o → o < J.log → b ≠ 2 + (J.p + o) % J.log) → gd D1.disk b = gd D.disk b := fun b hb hne => by
      rw [g1 b (by omega)]
      exact vN_none (fun x hx => by
        rcases List.mem_append.1 hx with hx | hx
        · exact hlow x hx b hb
        · obtain ⟨o, h1, h2, h3⟩ := dataP_harm hr x hx
          rw [h3]; exact fun e => hne o h1 h2 e.symm)
    have g1o : ∀ o, o ≤ J.full → gd D1.disk (2 + (J.p + o) % J.log) = gd D.disk (2 + (J.p + o) % J.log) := fun o ho => g1l _ (hoff o) (fun o' h1 h2 => by
      have := mod_ne J.p J.log o o' (by omega) h2 (by omega); omega)
    have g1s : gd D1.disk J.side = gd D.disk J.side ∧ gd D1.disk (1 - J.side) = gd D.disk (1 - J.side) := ⟨g1l _ (by omega) (fun o _ _ => by omega), g1l _ (by omega) (fun o _ _ => by omega)⟩
    have g1h : ∀ b, 52 ≤ b → b < n → gd D1.disk b = H b := fun b hb hbn => by
      rw [g1 b hbn, vN_append, vN_none (P := natW (J.dataW (L.map (·.2)))) (fun x hx => by obtain ⟨o, _, _, h3⟩ := dataP_harm hr x hx; have := hoff o; omega), ← rdB_vN]
      exact hp.read b hb hbn
    have good1 : Good N (gd D1.disk) n J F := hg.change g1s.1 g1s.2 g1o
    have hpz : J.pos 0 = 2 + (J.p + J.full) % J.log := rfl
    have zero1 : gd D1.disk (J.pos 0) = noughts := by rw [hpz, g1o _ (Nat.le_refl _), ← hpz]; exact h.zero
    have view1 : ∀ b, 52 ≤ b → b < n → vN (natW F.flatten) (gd D1.disk) b = H b := fun b hb hbn => by
      by_cases hx : ∃ x ∈ natW F.flatten, x.1 = b
      · rw [vN_hit (g' := gd D.disk) (.inl hx)]; exact hp.view b hb hbn
      · rw [vN_none (fun x hx' e => hx ⟨x, hx', e⟩)]; exact g1h b hb hbn
    have hfit2 : Fit D1.disk.length [(((J.pos 0 : Nat) : Int), bs (topL J.next L))] := by
      intro x hx; simp only [List.mem_singleton] at hx; subst hx; rw [len1]; exact ⟨by simp only; omega, by simp only; omega, htop⟩
    have hnat2 : natW [(((J.pos 0 : Nat) : Int), bs (topL J.next L))] = [(J.pos 0, bs (topL J.next L))] := by simp [natW]
    -- whatever disk has the whole head
    have whole : ∀ g' : Nat → ByteArray, g' (J.pos 0) = bs (topL J.next L) → (∀ b, b ≠ J.pos 0 → b < n → g' b = gd D1.disk b) →
        (Good (N + 1) g' n (J.grow (L.length + 1)) (F ++ [L]) ∧ g' ((J.grow (L.length + 1)).pos 0) = noughts) ∧ ∀ b, 52 ≤ b → b < n → vN (natW (F ++ [L]).flatten) g' b = put H L b := by
      intro g' ht ho
      have hne : ∀ j, J.full + (j + 1) < J.log → J.pos (j + 1) ≠ J.pos 0 := fun j hj => pos_ne hg.ok (j + 1) 0 hj (by omega) (by omega)
      have hpl : ∀ j, J.pos j < n := fun j => by have := hg.ok.pos_lt j; omega
      refine ⟨good_grow good1 hN hc hr ?_ (ho _ (by omega) (by omega)) (fun o ho' => ho _ (by rw [hpz]; have := mod_ne J.p J.log o J.full (by omega) (by omega) (by omega); omega) (by have := hoff o; omega)) ht (fun j hj => ?_) ?_, fun b hb hbn => ?_⟩
      · rw [ho _ (by omega) (by omega), g1s.2]; exact h.older
      · rw [ho _ (hne j (by omega)) (hpl _), g1d j (by omega)]
        simp [List.getD, List.getElem?_append_left, hj]
      · rw [ho _ (hne L.length (by omega)) (hpl _), g1d L.length (Nat.le_refl _)]
        simp [List.getD]
      · rw [flat_snoc, vN_append]
        unfold put
        apply vN_hit
        right
        rw [vN_hit (g' := gd D1.disk) (.inr (ho b (by omega) hbn))]
        exact view1 b hb hbn
    rcases stl_cases D1 _ a2 hfit2 with ⟨b1, b2, b3, b4⟩ | ⟨b1, b2, b3, k, hk, b4⟩
    · right
      rw [if_neg (by rw [b1]; simp)]
      have ok2 : (D1.stl [(((J.pos 0 : Nat) : Int), bs (topL J.next L))]).2.Ok := stl_ok ok1 hfit2
      generalize hD2 : (D1.stl [(((J.pos 0 : Nat) : Int), bs (topL J.next L))]).2 = D2 at *
      rw [hnat2, a4, List.nil_append] at b3
      have hpp2 : ∀ x ∈ [(J.pos 0, bs (topL J.next L))], x.1 < D1.disk.length ∧ x.2.size = 256 := by
        intro x hx; simp at hx; subst hx; exact ⟨by rw [len1]; simp only; omega, htop⟩
      have len2 : D2.disk.length = n := by rw [b3, laidTo_length]; exact len1
      have g2 : ∀ b, b < n → gd D2.disk b = vN [(J.pos 0, bs (topL J.next L))] (gd D1.disk) b := fun b hb => by
        rw [b3]; exact laid256 b (by rw [len1]; exact hb) ok1.whole hpp2
      have g2s : gd D2.disk (J.pos 0) = bs (topL J.next L) := by rw [g2 _ (by omega)]; exact vN_at (P := []) (Q := []) (x := (J.pos 0, bs (topL J.next L))) (fun y hy => by cases hy)
      have g2o : ∀ b, b ≠ J.pos 0 → b < n → gd D2.disk b = gd D1.disk b := fun b hne hb => by
        rw [g2 b hb]; exact vN_none (fun x hx => by simp at hx; subst hx; exact fun e => hne e.symm)
      obtain ⟨⟨q1, q2⟩, q3⟩ := whole (gd D2.disk) g2s g2o
      refine ⟨rfl, by rw [List.length_map], ?_⟩
      obtain ⟨k, hk⟩ := wrs_cases L D2 b2 (by rw [len2]; exact hfitL)
      have ok3 := wrs_ok L D2 ok2
      have hpn : (D2.wrs L).2.pend = natW (L.take k) := by rw [hk.pend, b4, List.nil_append]
      have hin : ∀ x ∈ natW L, ∃ y ∈ natW (F ++ [L]).flatten, y.1 = x.1 := fun x hx => ⟨x, by rw [flat_snoc]; exact List.mem_append_right _ hx, rfl⟩
      have hsub : ∀ x ∈ (D2.wrs L).2.pend, 52 ≤ x.1 ∧ ∃ y ∈ natW (F ++ [L]).flatten, y.1 = x.1 := by
        intro x hx
        rw [hpn] at hx
        have hx' : x ∈ natW L := by
          obtain ⟨y, hy, rfl⟩ := List.mem_map.1 hx
          exact List.mem_map.2 ⟨y, List.mem_of_mem_take hy, rfl⟩
        exact ⟨(hnl x hx').1, hin x hx'⟩
      rcases hk.how with ⟨c1, c2, c3⟩ | ⟨c1, c2⟩
      · left
        refine ⟨c1, ⟨⟨ok3, c3, by rw [hk.disk]; exact len2, by rw [hk.disk]; exact q1, hsub, by rw [hk.disk]; exact q3, fun b hb hbn => ?_⟩, by rw [hk.disk]; exact q2, by rw [hk.disk]; show Older (gd D2.disk (1 - J.side)) J.e; rw [g2o _ (by omega) (by omega), g1s.2]; exact h.older⟩⟩
        rw [rdB_vN, hpn, c2, List.take_length, hk.disk]
        unfold put
        apply vN_hit
        right
        rw [g2o b (by omega) hbn]; exact g1h b hb hbn
      · right
        refine ⟨c1, c2, ok3, by rw [hk.disk]; exact len2, fun f hf => ⟨put H L, _, _, .inr rfl, harm_rec hf ok3 (by rw [hk.disk]; exact len2) (by rw [hk.disk]; exact q1) (by rw [hk.disk]; exact q3) (fun x hx => .inl (hsub x hx))⟩⟩
    · left
      rw [if_pos (by rw [b1]; simp)]
      have ok2 : (D1.stl [(((J.pos 0 : Nat) : Int), bs (topL J.next L))]).2.Ok := stl_ok ok1 hfit2
      refine ⟨b1, b2, ok2, by rw [b3]; exact len1, fun f hf => ?_⟩
      have hsz := (ok2.settled f (fun k _ => hf k)).whole
      simp only at hsz
      rw [b3, b4, a4, List.nil_append] at hsz ⊢
      rcases list_take_one _ k hk with e | e
      · rw [e] at hsz ⊢
        exact ⟨H, J, F, .inl rfl, ⟨len1, ok1.whole, good1.more (by omega) hN, view1⟩⟩
      · rw [e, hnat2] at hsz ⊢
        have g2s := laid_one (f := f) (P := []) (disk := D1.disk) (J.pos 0) (bs (topL J.next L)) (fun y hy => by cases hy) (by omega)
        have g2o : ∀ b, b ≠ J.pos 0 → gd (laidTo f ([] ++ [(J.pos 0, bs (topL J.next L))]) D1.disk ([] ++ [(J.pos 0, bs (topL J.next L))]).length) b = gd D1.disk b := fun b hne => laid_other b _ (fun x hx => by simp at hx; subst hx; exact fun e => hne e.symm)
        rw [List.nil_append] at g2s g2o
        have len2 : (laidTo f [(J.pos 0, bs (topL J.next L))] D1.disk [(J.pos 0, bs (topL J.next L))].length).length = n := by rw [laidTo_length]; exact len1
        generalize laidTo f [(J.pos 0, bs (topL J.next L))] D1.disk [(J.pos 0, bs (topL J.next L))].length = d2 at *
        rw [zero1] at g2s
        by_cases hT : f ([] : List (Nat × ByteArray)).length = 256
        · rw [hT, layB_all _ _ htop noughts_size] at g2s
          obtain ⟨⟨q1, _⟩, q3⟩ := whole (gd d2) g2s (fun b hne _ => g2o b hne)
          exact ⟨put H L, _, _, .inr rfl, ⟨len2, hsz, q1, q3⟩⟩
        · have hlt : f ([] : List (Nat × ByteArray)).length < 256 := by have := hf ([] : List (Nat × ByteArray)).length; omega
          have hc2 : Good N (gd d2) n J F := good1.swap (g2o _ (by omega)) (g2o _ (by omega)) (fun o ho => g2o _ (by rw [hpz]; have := mod_ne J.p J.log o J.full (by omega) (by omega) (by omega); omega)) (by rw [g2s]; exact torn_head _ _ htop hlt)
          refine ⟨H, J, F, .inl rfl, ⟨len2, hsz, hc2.more (by omega) hN, fun b hb hbn => ?_⟩⟩
          rw [vN_hit (g' := gd D1.disk) (.inr (g2o b (by omega)))]; exact view1 b hb hbn
  · left
    rw [if_pos (by rw [a1]; simp)]
    have ok1 : (D.stl (J.dataW (L.map (·.2)))).2.Ok := stl_ok hp.dok hfit1
    refine ⟨a1, a2, ok1, by rw [a3]; exact hp.len, fun f hf => ⟨H, J, F, .inl rfl, Rec.more (harm_rec hf ok1 (by rw [a3]; exact hp.len) (by rw [a3]; exact hg) (by rw [a3]; exact hp.view) ?_) (by omega) hN⟩⟩
    intro x hx
    rw [a4] at hx
    rcases List.mem_append.1 hx with hx | hx
    · exact .inl (hp.pend x hx)
    · have hx' : x ∈ natW (J.dataW (L.map (·.2))) := by
        obtain ⟨y, hy, rfl⟩ := List.mem_map.1 hx
        exact List.mem_map.2 ⟨y, List.mem_of_mem_take hy, rfl⟩
      exact .inr (dataP_harm hr x hx')
end
end Go.Proofs.YtepfcaopboenpaaGreat
/- Commit, Open and Format, whole, in plain lists. -/
namespace Go.Proofs.YtepfcaopboenpaaGreat
open Go.RowKit
open Fr (bs fixL nmAt headB topL unp WrOk packL)

section
variable {N M n : Nat} {J : JS} {D : DevS} {H : Nat → ByteArray} {F : List (List Wr)} {L : List Wr}

theorem Sync.more (h : Sync N n J D H F) (hM : N ≤ M) (hb : M < 1000000) : Sync M n J D H F :=
  ⟨⟨h.pre.dok, h.pre.live, h.pre.len, h.pre.good.more hM hb, h.pre.pend, h.pre.view, h.pre.read⟩, h.zero, h.older⟩
theorem Safe.more {P : (Nat → ByteArray) → Prop} (h : Safe N n D P) (hM : N ≤ M) (hb : M < 1000000) : Safe M n D P := fun f hf => by
  obtain ⟨H, J, F, h1, h2⟩ := h f hf; exact ⟨H, J, F, h1, h2.more hM hb⟩
/-- The power is gone, and whatever a crash keeps Open finds home as P says. -/
structure Gone (N n : Nat) (D : DevS) (P : (Nat → ByteArray) → Prop) : Prop where
  dead : D.dead = true
  dok : D.Ok
  len : D.disk.length = n
  safe : Safe N n D P

theorem commit_safe (h : Sync N n J D H F) (hN : N + 2 < 1000000) (hc : J.chk n L = 0) :
    ((J.commit D L).1 = 0 ∧ ∃ F', Sync (N + 2) n (J.commit D L).2.2 (J.commit D L).2.1 (put H L) (F' ++ [L])) ∨ ((J.commit D L).1 = 4 ∧ Gone (N + 2) n (J.commit D L).2.1 (fun X => X = H ∨ X = put H L)) := by
  have hlen := h.pre.len
  have hlg := h.pre.good.lg
  have hfu := h.pre.good.ok.fu
  obtain ⟨l1, l2, _⟩ := (J.chk_ok n L).1 hc
  have hleft : J.left = J.log - J.full := rfl
  unfold JS.commit
  rw [hlen, if_neg (by simpa using hc)]
  simp only
  by_cases hlt : J.left < L.length + 2
  · rw [if_pos hlt]
    rcases ckp_safe h.pre (by omega) with ⟨a1, a2, a3, a4⟩ | ⟨a1, a2, a3, a4, a5⟩
    · rw [if_neg (by rw [a1]; simp)]
      have hn0 : (J.ckp D).2.2.next = J.next := by rw [a3]; rfl
      have hf0 : (J.ckp D).2.2.full = 0 := by rw [a3]; rfl
      have hl0 : (J.ckp D).2.2.log = J.log := by rw [a3]; rfl
      have hc0 : (J.ckp D).2.2.chk n L = 0 := (chk_log hl0 n L).trans hc
      rcases add_safe (L := L) a2 (by omega) hc0 (by rw [hf0, hl0]; omega) _ rfl with ⟨b1, b2, b3, b4, b5⟩ | ⟨b1, b2, b3⟩
      · rw [hn0] at b1 b2 b3 b4 b5
        rw [if_pos (by rw [b1]; simp)]
        exact .inr ⟨b1, b2, b3, b4, b5.more (by omega) hN⟩
      · rw [hn0] at b1 b2 b3
        rw [if_neg (by rw [b1]; simp)]
        rw [b2]
        rcases b3 with ⟨c1, c2⟩ | ⟨c1, c2, c3, c4, c5⟩
        · exact .inl ⟨c1, _, c2.more (by omega) hN⟩
        · exact .inr ⟨c1, c2, c3, c4, c5.more (by omega) hN⟩
    · rw [if_pos (by rw [a1]; simp)]
      exact .inr ⟨a1, a2, a3, a4, (a5.mono (fun X hX => .inl hX)).more (by omega) hN⟩
  · rw [if_neg hlt, if_neg (by simp)]
    rcases add_safe (L := L) h (by omega) hc (by omega) _ rfl with ⟨b1, b2, b3, b4, b5⟩ | ⟨b1, b2, b3⟩
    · rw [if_pos (by rw [b1]; simp)]
      exact .inr ⟨b1, b2, b3, b4, b5.more (by omega) hN⟩
    · rw [if_neg (by rw [b1]; simp)]
      rw [b2]
      rcases b3 with ⟨c1, c2⟩ | ⟨c1, c2, c3, c4, c5⟩
      · exact .inl ⟨c1, _, c2.more (by omega) hN⟩
      · exact .inr ⟨c1, c2, c3, c4, c5.more (by omega) hN⟩

theorem open_safe (h : Rec N n D.disk H J F) (hN : N + 1 < 1000000) (ok : D.Ok) (hde : D.dead = false) (hp : D.pend = []) :
    (D.opn.1 = 0 ∧ D.opn.2.2 = some J.next' ∧ Sync (N + 1) n J.next' D.opn.2.1 H [] ∧ D.opn.2.1.pend = []) ∨ (D.opn.1 = 4 ∧ D.opn.2.2 = none ∧ Gone (N + 1) n D.opn.2.1 (· = H)) := by
  have hg := h.good
  have hb := hg.bnd; have hr := hg.room; have hfull := hg.full; have hnx := hg.next; have hlg := hg.lg
  have hhome : J.home = 52 := by unfold JS.home; omega
  have hfit : Fit D.disk.length F.flatten := by
    intro x hx
    obtain ⟨f, hf, hxf⟩ := List.mem_flatten.1 hx
    obtain ⟨a, b, c⟩ := ((J.chk_ok n f).1 (hg.fine f hf)).2.2 x hxf
    rw [hhome] at a
    rw [h.len]
    exact ⟨by omega, by omega, c⟩
  have hfl52 : ∀ x ∈ natW F.flatten, 52 ≤ x.1 := by
    intro x hx
    obtain ⟨y, hy, rfl⟩ := List.mem_map.1 hx
    obtain ⟨f, hf, hxf⟩ := List.mem_flatten.1 hy
    obtain ⟨a, b, c⟩ := ((J.chk_ok n f).1 (hg.fine f hf)).2.2 y hxf
    rw [hhome] at a
    simp only; omega
  have hFl : F.length ≤ fsz F := by
    clear hfit hfl52 hfull hnx hr hg h
    induction F with
    | nil => exact Nat.le_refl _
    | cons f F ih => simp only [List.length_cons, fsz]; omega
  obtain ⟨J', h1, h2⟩ := redo_laid (g := gd D.disk) hg.n4 F J.fresh D (J.log + 1) h.len hde ⟨hg.ok.l0, hg.ok.l1, hg.ok.pl, hg.ok.si, Nat.zero_le _, hg.ok.e64, hg.ok.s64, hg.ok.s64⟩ (fun _ _ => rfl) (by rw [hp]; intro x hx; cases hx) hg.laid
    (fun f hf => (chk_log (J := J.fresh) (K := J) rfl n f).trans (hg.fine f hf)) (by show 0 + fsz F ≤ J.log; omega) (by show J.s + F.length < _; omega) (by
      show headB (gd D.disk (2 + (J.p + (0 + fsz F)) % J.log)).data.toList = false
      rw [Nat.zero_add, ← hfull]
      exact hg.stop) (by omega)
  have hredo : J.fresh.redo D = ((D.wrs F.flatten).1, (D.wrs F.flatten).2, J') := h1
  have hfind := find_good hg h.len hp
  obtain ⟨k, hk⟩ := wrs_cases F.flatten D hde hfit
  have okw := wrs_ok F.flatten D ok
  have hpn : (D.wrs F.flatten).2.pend = natW (F.flatten.take k) := by rw [hk.pend, hp, List.nil_append]
  have hsub : ∀ x ∈ (D.wrs F.flatten).2.pend, 52 ≤ x.1 ∧ ∃ y ∈ natW F.flatten, y.1 = x.1 := by
    intro x hx
    rw [hpn] at hx
    have hx' : x ∈ natW F.flatten := by
      obtain ⟨y, hy, rfl⟩ := List.mem_map.1 hx
      exact List.mem_map.2 ⟨y, List.mem_of_mem_take hy, rfl⟩
    exact ⟨hfl52 x hx', x, hx', rfl⟩
  have hopn : D.opn = if (D.wrs F.flatten).1 ≠ 0 then ((D.wrs F.flatten).1, (D.wrs F.flatten).2, none) else if (J'.ckp (D.wrs F.flatten).2).1 ≠ 0 then ((J'.ckp (D.wrs F.flatten).2).1, (J'.ckp (D.wrs F.flatten).2).2.1, none) else (0, (J'.ckp (D.wrs F.flatten).2).2.1, some (J'.ckp (D.wrs F.flatten).2).2.2) := by
    unfold DevS.opn
    rw [hde, hfind]
    simp only [hredo]
    rfl
  rw [hopn]
  rcases hk.how with ⟨c1, c2, c3⟩ | ⟨c1, c2⟩
  · rw [if_neg (by rw [c1]; simp)]
    have hJ' : J' = J := by
      rw [h2 c1]
      show ({ J with next := J.s + F.length, full := 0 + fsz F } : JS) = J
      rw [← hnx, Nat.zero_add, ← hfull]
    rw [hJ']
    have pre : Pre N n J (D.wrs F.flatten).2 H F := by
      refine ⟨okw, c3, by rw [hk.disk]; exact h.len, by rw [hk.disk]; exact hg, hsub, by rw [hk.disk]; exact h.view, fun b hb hbn => ?_⟩
      rw [rdB_vN, hpn, c2, List.take_length, hk.disk]
      exact h.view b hb hbn
    rcases ckp_safe pre hN with ⟨a1, a2, a3, a4⟩ | ⟨a1, a2, a3, a4, a5⟩
    · left
      rw [if_neg (by rw [a1]; simp)]
      exact ⟨rfl, by rw [a3], by rw [a3] at a2; exact a2, a4⟩
    · right
      rw [if_pos (by rw [a1]; simp)]
      exact ⟨a1, rfl, a2, a3, a4, a5⟩
  · right
    rw [if_pos (by rw [c1]; simp)]
    exact ⟨c1, rfl, c2, okw, by rw [hk.disk]; exact h.len, fun f hf => ⟨H, J, F, rfl, Rec.more (harm_rec hf okw (by rw [hk.disk]; exact h.len) (by rw [hk.disk]; exact hg) (by rw [hk.disk]; exact h.view) (fun x hx => .inl (hsub x hx))) (by omega) hN⟩⟩

/-! ### Without a fuse the power stays -/
def NF (D D' : DevS) : Prop := D'.fused = false ∧ D'.dead = D.dead
theorem nf_tk (h : D.fused = false) : D.tk = (true, D) := by unfold DevS.tk; rw [if_pos h]
theorem nf_wr (h : D.fused = false) (i : Int) (s : ByteArray) : NF D (D.wr i s).2 := by
  unfold DevS.wr
  rw [nf_tk h]
  split
  · exact ⟨h, rfl⟩
  · split
    · exact ⟨h, rfl⟩
    · split
      · exact ⟨h, rfl⟩
      · exact ⟨h, rfl⟩
theorem nf_wrs (W : List Wr) : ∀ D : DevS, D.fused = false → NF D (D.wrs W).2 := by
  induction W with
  | nil => intro D h; exact ⟨h, rfl⟩
  | cons x r ih =>
    intro D h
    have h1 := nf_wr h x.1 x.2
    unfold DevS.wrs
    split
    · exact h1
    · have h2 := ih _ h1.1
      exact ⟨h2.1, h2.2.trans h1.2⟩
theorem nf_fl (h : D.fused = false) : NF D D.fl.2 := by
  unfold DevS.fl
  rw [nf_tk h]
  split
  · exact ⟨h, rfl⟩
  · split
    · exact ⟨h, rfl⟩
    · exact ⟨h, rfl⟩
theorem nf_stl (W : List Wr) (h : D.fused = false) : NF D (D.stl W).2 := by
  have h1 := nf_wrs W D h
  unfold DevS.stl
  split
  · exact h1
  · have h2 := nf_fl h1.1
    exact ⟨h2.1, h2.2.trans h1.2⟩
theorem nf_ckp (J : JS) (h : D.fused = false) : NF D (J.ckp D).2.1 := by
  have h1 := nf_stl [(((J.pos 0 : Nat) : Int), noughts)] h
  unfold JS.ckp
  simp only
  split
  · exact h1
  · have h2 := nf_stl [(((1 - J.side : Nat) : Int), slotB ((J.e + 1) % 18446744073709551616) J.next J.log (J.pos 0 - 2))] h1.1
    split
    · exact ⟨h2.1, h2.2.trans h1.2⟩
    · exact ⟨h2.1, h2.2.trans h1.2⟩
theorem nf_redo (m : Nat) : ∀ (J : JS) (D : DevS), D.fused = false → NF D (J.redoN D m).2.1 := by
  induction m with
  | zero => intro J D h; exact ⟨h, rfl⟩
  | succ m ih =>
    intro J D h
    cases hfr : J.frameOf D with
    | none => rw [redoN_none m hfr]; exact ⟨h, rfl⟩
    | some ws =>
      rw [redoN_some m hfr]
      have h1 := nf_wrs ws D h
      split
      · exact h1
      · have h2 := ih (J.grow (ws.length + 1)) _ h1.1
        exact ⟨h2.1, h2.2.trans h1.2⟩
theorem nf_opn (h : D.fused = false) : NF D D.opn.2.1 := by
  unfold DevS.opn
  split
  · exact ⟨h, rfl⟩
  · split
    · exact ⟨h, rfl⟩
    · rename_i J _
      have h1 := nf_redo (J.log + 1) J D h
      simp only
      split
      · exact h1
      · have h2 := nf_ckp (J.redo D).2.2 h1.1
        split
        · exact ⟨h2.1, h2.2.trans h1.2⟩
        · exact ⟨h2.1, h2.2.trans h1.2⟩
/-- Open without a fuse. -/
theorem open_sure (h : Rec N n D.disk H J F) (hN : N + 1 < 1000000) (ok : D.Ok) (hde : D.dead = false) (hp : D.pend = []) (hf : D.fused = false) :
    D.opn.1 = 0 ∧ D.opn.2.2 = some J.next' ∧ Sync (N + 1) n J.next' D.opn.2.1 H [] ∧ D.opn.2.1.pend = [] := by
  rcases open_safe h hN ok hde hp with h1 | ⟨_, _, h1⟩
  · exact h1
  · have := (nf_opn hf).2
    rw [h1.dead, hde] at this
    cases this

/-- A journal that was just formatted. -/
def J0 : JS := ⟨1, 1, 50, 0, 0, 1, 0⟩
theorem fmt_rec (n : Nat) (h1 : 53 ≤ n) (h2 : n ≤ 4096) : ((DevS.made n).fmt 50).1 = 0 ∧ ((DevS.made n).fmt 50).2.pend = [] ∧ ((DevS.made n).fmt 50).2.dead = false ∧ ((DevS.made n).fmt 50).2.fused = false ∧ ((DevS.made n).fmt 50).2.Ok ∧
    Rec 1 n ((DevS.made n).fmt 50).2.disk (fun _ => noughts) J0 [] := by
  have hok := DevS.made_ok n (by omega) h2
  have hln : (DevS.made n).disk.length = n := by simp [DevS.made]
  have hfm : (DevS.made n).fmt 50 = (DevS.made n).stl (fmtL 50) := by
    unfold DevS.fmt; rw [hln, if_neg (by omega)]; rfl
  have hmem : ∀ x ∈ natW (fmtL 50), x = (0, slotB 1 1 50 0) ∨ (x.2 = noughts ∧ 1 ≤ x.1 ∧ x.1 < 52) := by
    intro x hx
    unfold natW fmtL at hx
    rw [List.map_append] at hx
    rcases List.mem_append.1 hx with hx | hx
    · obtain ⟨y, hy, rfl⟩ := List.mem_map.1 hx
      obtain ⟨i, hi, rfl⟩ := List.mem_map.1 hy
      have := List.mem_range.1 hi
      exact .inr ⟨rfl, by simp only; omega, by simp only; omega⟩
    · simp at hx; subst hx; exact .inl rfl
  have hfit : Fit (DevS.made n).disk.length (fmtL 50) := by
    intro x hx
    rw [hln]
    unfold fmtL at hx
    rcases List.mem_append.1 hx with hx | hx
    · obtain ⟨i, hi, rfl⟩ := List.mem_map.1 hx
      have := List.mem_range.1 hi
      exact ⟨by simp only; omega, by simp only; omega, noughts_size⟩
    · simp only [List.mem_singleton] at hx; subst hx; exact ⟨by simp, by simp only; omega, slotB_size _ _ _ _⟩
  rw [hfm]
  have hnf := nf_stl (D := DevS.made n) (fmtL 50) rfl
  have ok1 := stl_ok hok hfit
  rcases stl_cases (DevS.made n) (fmtL 50) rfl hfit with ⟨a1, a2, a3, a4⟩ | ⟨a1, a2, _⟩
  · have hp0 : (DevS.made n).pend = [] := rfl
    rw [hp0, List.nil_append] at a3
    have hpp : ∀ x ∈ natW (fmtL 50), x.1 < (DevS.made n).disk.length ∧ x.2.size = 256 := by
      intro x hx
      rw [hln]
      rcases hmem x hx with rfl | ⟨h1, h2, h3⟩
      · exact ⟨by simp only; omega, slotB_size _ _ _ _⟩
      · exact ⟨by omega, by rw [h1]; exact noughts_size⟩
    have g1 : ∀ b, b < n → gd ((DevS.made n).stl (fmtL 50)).2.disk b = vN (natW (fmtL 50)) (gd (DevS.made n).disk) b := fun b hb => by
      rw [a3]; exact laid256 b (by rw [hln]; exact hb) hok.whole hpp
    have gz : ∀ b, b < n → gd (DevS.made n).disk b = noughts := fun b hb => by
      unfold gd DevS.made; simp [List.getD, hb]
    have gs : gd ((DevS.made n).stl (fmtL 50)).2.disk 0 = slotB 1 1 50 0 := by
      rw [g1 0 (by omega)]
      unfold fmtL
      rw [natW_append]
      exact vN_at (x := (0, slotB 1 1 50 0)) (Q := []) (fun y hy => by cases hy)
    have go : ∀ b, 1 ≤ b → b < n → gd ((DevS.made n).stl (fmtL 50)).2.disk b = noughts := fun b h1 hb => by
      rw [g1 b hb]
      unfold vN
      cases hf : (natW (fmtL 50)).reverse.find? (fun x => x.1 == b) with
      | none => exact gz b hb
      | some x =>
        have hx := List.mem_reverse.1 (List.mem_of_find?_eq_some hf)
        have he : x.1 = b := by simpa using List.find?_some hf
        rcases hmem x hx with rfl | ⟨h2, _⟩
        · simp only at he; omega
        · exact h2
    refine ⟨a1, a4, a2, hnf.1, ok1, ⟨by rw [a3, laidTo_length, hln], ok1.whole, ?_, fun b hb hbn => ?_⟩⟩
    · refine ⟨⟨by decide, by show 50 + 3 ≤ n; omega, by decide, by decide, by decide, by decide, by decide, by decide⟩, h2, rfl, by omega, ⟨by decide, by decide⟩, rfl, rfl, by decide, gs, ?_, trivial, fun f hf => (by cases hf), ?_⟩
      · have e1 : gd ((DevS.made n).stl (fmtL 50)).2.disk (1 - J0.side) = noughts := go 1 (by omega) (by omega)
        refine ⟨noughts, 0, by omega, older_noughts _, by rw [layB_none]; exact e1, fun e => ?_⟩
        rw [e1] at e
        have := congrArg (fun b : ByteArray => b.data.toList.getD 0 0) e
        simp only [noughts_at] at this
        have h67 : (JS.tgt J0).data.toList.getD 0 0 = 67 := rfl
        rw [h67] at this
        cases this
      · have e2 : gd ((DevS.made n).stl (fmtL 50)).2.disk (J0.pos 0) = noughts := go 2 (by omega) (by omega)
        rw [e2]; exact headB_noughts
    · rw [vN_none (fun x hx => by simp [natW] at hx)]; exact go b (by omega) hbn
  · have := hnf.2
    rw [a2] at this
    cases this
end
end Go.Proofs.YtepfcaopboenpaaGreat
/- What Format answers and leaves behind, for every device and every length of a log. -/
namespace Go.Proofs.YtepfcaopboenpaaGreat
open Go.RowKit
open Fr (SlW OwnW flatI two_cells two_one own_pushW)

section
variable {S : Nat → Prop} {w w' : World} {a p : Nat} {J : JS} {D : DevS}

def fmtK (k : Nat) : List (Int × ByteArray) := (List.range k).map fun i => (((i + 1 : Nat) : Int), noughts)
theorem fmtK_succ (k : Nat) : fmtK (k + 1) = fmtK k ++ [(((k + 1 : Nat) : Int), noughts)] := by unfold fmtK; rw [List.range_succ, List.map_append]; rfl
theorem fmtK_len (k : Nat) : (fmtK k).length = k := by simp [fmtK]
theorem fmtL_eq (log : Nat) : fmtL log = fmtK (log + 1) ++ [(0, slotB 1 1 log 0)] := rfl

set_option maxRecDepth 100000 in
set_option maxHeartbeats 2000000 in
theorem format_any (log : Int) (hd : Stands S w p D) (hp : D.pend.length ≤ 800000) :
    Calls Tryz.prog 25 #[.pointer (some ⟨p, 0, none⟩), .int .i64 log] w fun e w' => e = .returned (.int .i64 (D.fmt log).1) ∧ Leaves S w w' p (D.fmt log).2 := by
  obtain ⟨i0, hi, hz0, hz1, hz2⟩ := info_parts Tryz.infoW
  have HZ2 := Lib.hid hz2; clear hz2
  have hnd := hd.ok.few
  have CBl := Lib.hid (blocks_any hd)
  have CFi := Lib.hid (fits_any (w := w) log D.disk.length hnd)
  have HD := Lib.hid hd; clear hd
  by_cases hf : 50 ≤ log ∧ log ≤ (D.disk.length : Int) - 3
  · rw [decide_eq_true hf] at CFi
    obtain ⟨n, rfl⟩ := Int.eq_ofNat_of_zero_le (show 0 ≤ log by omega)
    have HFm : Hid (D.fmt (n : Int) = D.stl (fmtK (n + 1) ++ [(0, slotB 1 1 n 0)])) := by
      show _ = _; unfold DevS.fmt; rw [if_neg (by omega), Int.toNat_natCast, fmtL_eq]
    have hn1 : n ≤ 4096 := by omega
    generalize D.disk.length = nd at *
    clear hf
    obtain ⟨NN, hNN⟩ : ∃ x, noughts = x := ⟨_, rfl⟩
    have CN : Hid (∀ W, Calls Tryz.prog 50 #[.int .i64 256] W fun e w' => e = .returned (.string NN) ∧ Below W.heap.size W w') := fun W => by rw [← hNN]; exact jnoughts_all W
    have HSu : Hid (∀ k, fmtK (k + 1) = fmtK k ++ [(((k + 1 : Nat) : Int), NN)]) := fun k => by rw [← hNN]; exact fmtK_succ k
    clear hNN
    go_enter Tryz.func25, Tryz.ntmps25
    go_wp2_with fail
    refine CBl.out.mono ?_
    rintro e w1 ⟨rfl, rfl⟩
    go_wp2_with fail
    refine CFi.out.mono ?_
    rintro e w1 ⟨rfl, rfl⟩
    go_wp2_with fail
    go_loopw [5, 6] (fun wv i wr => ∃ k : Nat, k ≤ n + 1 ∧ i = .int .i64 ((k + 1 : Nat) : Int) ∧ Hid (OwnW w.heap.size wr wv (fmtK k)) ∧ Hid (Below w.heap.size w wr)) (fun _ i _ => n + 2 - (intOf i).toNat)
    case atStart => exact ⟨0, Nat.zero_le _, rfl, OwnW.nil _ _, Below.refl _ _⟩
    case round =>
      obtain ⟨k, hk, rfl, HO, HB⟩ := hrel
      have hbr := HB.out.size
      by_cases hlt : k < n + 1
      · have hlen : (fmtK k).length ≤ 4098 := by rw [fmtK_len]; omega
        have HSN := Lib.hid (HSu.out k)
        have i1 : (k : Int) + 1 < 2 + (n : Int) := by omega
        obtain ⟨M, hM⟩ : ∃ M, fmtK k = M := ⟨_, rfl⟩
        rw [hM] at HO HSN hlen
        clear hM
        obtain ⟨ao2, c2, hv, _⟩ := HO.out.sl
        subst hv
        have wk : IntKind.i64.wrap ((k : Int) + 1 + 1) = (k : Int) + 1 + 1 := IntWalk.i64_in _ (by omega)
        go_wp2_with fail
        refine (CN.out _).mono ?_
        rintro e w2 ⟨rfl, hb2⟩
        have HB2 := Lib.hid hb2; clear hb2
        have hbr2 := HB2.out.size
        go_wp2_with (at_builtin; go_loud (refine wpList_append_own _ rfl _ _ 46 rfl w.heap.size 73 i0 _ 2 24 Tryz.underlying46 hi hz0 hz1 HZ2.out rfl (by decide) _ _ _ rfl ((HO.out.below HB2.out).alloc _) _ 1 1 [.int .i64 ((k : Int) + 1), .string NN] rfl rfl (two_cells rfl) two_one ?c3 ?c4 ?c5 ?_))
        case c3 => unfold maxLen; omega
        case c4 => omega
        case c5 => simp; omega
        intro v1 w3 hown hgrow _
        have HO3 : Hid (OwnW w.heap.size w3 v1 (fmtK (k + 1))) := by
          show OwnW _ _ _ _
          rw [HSN.out]; exact own_pushW hown
        have HB3 : Hid (Below w.heap.size w w3) := ((HB.out.trans (HB2.out.mono hbr)).alloc (by omega) _).grown hgrow (by simp; omega) (fun q hq => (HO.out.lt q hq).1)
        clear hown hgrow HB2
        go_wp2
        go_roundw
        case rel => exact ⟨k + 1, by omega, by go_num, HO3, HB3⟩
        case measure => simp [intOf]; omega
      · have hkn : k = n + 1 := by omega
        subst hkn
        have hlen : (fmtK (n + 1)).length ≤ 4098 := by rw [fmtK_len]; omega
        have i1 : ¬ ((n + 1 : Nat) : Int) + 1 < 2 + (n : Int) := by omega
        obtain ⟨ao2, c2, hv, _⟩ := HO.out.sl
        subst hv
        obtain ⟨M, hM⟩ : ∃ M, fmtK (n + 1) = M := ⟨_, rfl⟩
        rw [hM] at HO HFm hlen ⊢
        clear hM
        have CT : Hid (∀ W, Calls Tryz.prog 52 #[.agg #[.int .u64 1, .int .u64 1, .int .i64 (n : Int), .int .i64 0]] W fun r w' => r = .returned (.string (slotB 1 1 n 0)) ∧ Below W.heap.size W w') := fun W => text_any 1 1 n 0 W (by omega) (by omega) hn1 (by omega)
        generalize slotB 1 1 n 0 = tt at *
        obtain ⟨Y, hY⟩ : ∃ Y, (wr.alloc (.cells #[.int .u64 1, .int .u64 1, .int .i64 (n : Int), .int .i64 0] 77)).alloc (.cells #[.pointer (some ⟨p, 0, none⟩), .int .u64 0, .int .u64 0, .int .i64 0, .int .i64 0, .int .i64 0, .int .u64 0, .int .i64 0] 79) = Y := ⟨_, rfl⟩
        have hYb : Below wr.heap.size wr Y := by rw [← hY]; exact ((Below.refl _ _).alloc (Nat.le_refl _) _).alloc (by simp) _
        have hYj : Jr 79 Y (wr.heap.size + 1) p ⟨0, 0, 0, 0, 0, 0, 0⟩ := by
          have e : (wr.alloc (.cells #[.int .u64 1, .int .u64 1, .int .i64 (n : Int), .int .i64 0] 77)).heap.size = wr.heap.size + 1 := by simp
          unfold Jr; rw [← hY, ← e]; exact heap_alloc_new ..
        have hYz := hYj.lt
        have HY := Lib.hid hY; have HYb := Lib.hid hYb; have HYj := Lib.hid hYj
        clear hY hYb hYj
        go_wp2_with fail
        rw [HY.out]
        refine (CT.out _).mono ?_
        rintro e w2 ⟨rfl, hb2⟩
        have HB2 : Hid (Below wr.heap.size wr w2) := HYb.out.trans (hb2.mono HYb.out.size)
        have HJ2 := Lib.hid (HYj.out.below hb2)
        have hz2 := hb2.size
        clear hb2
        have hbr2 := HB2.out.size
        go_wp2_with (at_builtin; go_loud (refine wpList_append_own _ rfl _ _ 46 rfl w.heap.size 73 i0 _ 2 24 Tryz.underlying46 hi hz0 hz1 HZ2.out rfl (by decide) _ _ _ rfl ((HO.out.below HB2.out).alloc _) _ 1 1 [.int .i64 0, .string tt] rfl rfl (two_cells rfl) two_one ?c3 ?c4 ?c5 ?_))
        case c3 => unfold maxLen; omega
        case c4 => omega
        case c5 => simp; omega
        intro v1 w3 hown hgrow _
        have hO3 := own_pushW hown
        have HB3 : Hid (Below w.heap.size w w3) := ((HB.out.trans (HB2.out.mono hbr)).alloc (by omega) _).grown hgrow (by simp; omega) (fun q hq => (HO.out.lt q hq).1)
        have HJ3 : Hid (Jr 79 w3 (wr.heap.size + 1) p ⟨0, 0, 0, 0, 0, 0, 0⟩) := by
          show Jr _ _ _ _ _
          have h1 : Jr 79 (w2.alloc (.cells #[.int .i64 0, .string tt] 73)) (wr.heap.size + 1) p ⟨0, 0, 0, 0, 0, 0, 0⟩ := HJ2.out.below ((Below.refl _ _).alloc (Nat.le_refl _) _)
          unfold Jr
          rw [hgrow.block _ h1.lt (fun e => by have := (HO.out.lt _ e.symm).2; omega)]
          exact h1
        have hl2 : (M ++ [((0 : Int), tt)]).length ≤ 5000 := by simp; omega
        obtain ⟨M2, hM2⟩ : ∃ M2, M ++ [((0 : Int), tt)] = M2 := ⟨_, rfl⟩
        rw [hM2] at hO3 HFm hl2
        have HO3 := Lib.hid hO3
        clear hown hgrow hO3 HB2 HJ2 hM2
        have hna : ¬ S (wr.heap.size + 1) := fun h => by have := HD.out.lt _ h; omega
        have hSO : Outs S v1 := by
          intro g off' n' c' hv hg
          have h1 := (HO3.out.lt g (by rw [hv]; rfl)).1
          have h2 := HD.out.lt g hg
          omega
        have CS := Lib.hid (jsettle_any (L := M2) HJ3.out (HD.out.below HB3.out) hna (by omega) (by omega) HO3.out.sl hSO)
        obtain ⟨ao3, c3, hv3, _⟩ := HO3.out.sl
        subst hv3
        clear hSO HO3 hna
        go_wp2_with fail
        refine CS.out.mono ?_
        rintro e w4 ⟨rfl, hv4⟩
        have HV := Lib.hid (Leaves.from HB3.out hv4); clear hv4
        go_wp2
        go_ret
        exact ⟨by rw [HFm.out]; rfl, by rw [HFm.out]; exact HV.out⟩
  · have HFm : Hid (D.fmt log = (2, D)) := by show _ = _; unfold DevS.fmt; rw [if_pos (by omega)]
    rw [decide_eq_false hf] at CFi
    generalize D.disk.length = nd at *
    clear hf
    go_enter Tryz.func25, Tryz.ntmps25
    go_wp2_with fail
    refine CBl.out.mono ?_
    rintro e w1 ⟨rfl, rfl⟩
    go_wp2_with fail
    refine CFi.out.mono ?_
    rintro e w1 ⟨rfl, rfl⟩
    go_wp2
    go_ret
    exact ⟨by rw [HFm.out]; rfl, by rw [HFm.out]; exact .mk HD.out (Only.refl _ _)⟩
end
end Go.Proofs.YtepfcaopboenpaaGreat

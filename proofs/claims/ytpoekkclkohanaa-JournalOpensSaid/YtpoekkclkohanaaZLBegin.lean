/- What begin answers: a device with a journal; the world of the statements. -/
import Derived.Test.YtpoekkclkohanaaZJSafe4
import Derived.Test.YtpoekkclkohanaaZJOpen
import Derived.Test.YtpoekkclkohanaaZLHelp
import Derived.Test.YtpoekkclkohanaaZJCommit

namespace Go.Proofs.Ytpoekkclkohanaa
open Go.RowKit
open Fr (SlW)

/-- The device and the journal that begin makes. -/
def Db (n : Nat) : DevS := ((DevS.made n).fmt 50).2.opn.2.1
def Jb : JS := J0.next'
theorem begin_sync (n : Nat) (h1 : 53 ≤ n) (h2 : n ≤ 4096) : ((DevS.made n).fmt 50).2.opn = (0, Db n, some Jb) ∧ Sync 2 n Jb (Db n) (fun _ => noughts) [] ∧ (Db n).pend = [] ∧ (Db n).fused = false := by
  obtain ⟨a1, a2, a3, a4, a5, a6⟩ := fmt_rec n h1 h2
  obtain ⟨b1, b2, b3, b4⟩ := open_sure a6 (by omega) a5 a3 a2 a4
  refine ⟨Prod.ext b1 (Prod.ext rfl b2), b3, b4, (nf_opn a4).1⟩

section
variable {w0 w w' : World} {wb a p : Nat} {J J' : JS} {D D' : DevS}
/-- New, Format and Open, one behind the other, with devices that bear no numbers. -/
theorem begin_pack (n : Nat) (h1 : 53 ≤ n) (h2 : n ≤ 4096) : ∃ Z DF : DevS, Z.pend.length ≤ 600000 ∧
    (∀ w, Calls Try.prog 6 #[.int .i64 (n : Int)] w fun e w' => ∃ p, e = .returned (.tuple #[.pointer (some ⟨p, 0, none⟩), .int .i64 0]) ∧ Fresh w w' p Z) ∧
    (∀ (S : Nat → Prop) W p, Stands S W p Z → Calls Try.prog 18 #[.pointer (some ⟨p, 0, none⟩), .int .i64 50] W fun e w' => e = .returned (.int .i64 0) ∧ Leaves S W w' p DF) ∧
    (∀ (S : Nat → Prop) W p, Stands S W p DF → Calls Try.prog 11 #[.pointer (some ⟨p, 0, none⟩)] W fun e w' => ∃ S' a, (∀ k, S' k → S k ∨ W.heap.size ≤ k) ∧ Stands S' w' p (Db n) ∧ Only S W w' ∧ e = .returned (.tuple #[.pointer (some ⟨a, 0, none⟩), .int .i64 0]) ∧ W.heap.size ≤ a ∧ ¬ S' a ∧ Jr 64 w' a p Jb) ∧
    (∀ (S : Nat → Prop) W p, Stands S W p Z → Calls Try.prog 11 #[.pointer (some ⟨p, 0, none⟩)] W fun e w' => e = .returned (.tuple #[.pointer none, .int .i64 10]) ∧ Only S W w') ∧
    (∀ (S : Nat → Prop) W p (l : Int), (n : Int) - 3 < l → Stands S W p Z → Calls Try.prog 18 #[.pointer (some ⟨p, 0, none⟩), .int .i64 l] W fun e w' => e = .returned (.int .i64 2) ∧ Leaves S W w' p Z) := by
  obtain ⟨f1, f2, f3, f4, f5, f6⟩ := fmt_rec n h1 h2
  obtain ⟨s1, _, _, _⟩ := begin_sync n h1 h2
  have hp0 : (DevS.made n).pend = [] := rfl
  have hde : (DevS.made n).dead = false := rfl
  have hln : (DevS.made n).disk.length = n := by simp [DevS.made]
  have hfind : (DevS.made n).find = none := by
    have hz : ∀ i, (DevS.made n).slotAt i = none := by
      intro i
      unfold DevS.slotAt
      split
      · rename_i hi
        have hr : (DevS.made n).rdB i = noughts := by
          rw [rdB_none i (by rw [hp0]; intro x hx; cases hx)]
          unfold gd DevS.made
          rw [hln] at hi
          simp [List.getD, hi]
        rw [hr]
        cases hx : rdSlot noughts (DevS.made n).disk.length with
        | none => rfl
        | some x =>
          have := rdSlot_bytes hx
          have h0 := congrArg (fun b : ByteArray => b.data.toList.getD 0 0) this
          simp only [noughts_at] at h0
          have h67 : (slotB x.1 x.2.1 x.2.2.1 x.2.2.2).data.toList.getD 0 0 = 67 := rfl
          rw [h67] at h0
          cases h0
      · rfl
    unfold DevS.find
    rw [hz 0, hz 1]
  have hopn : (DevS.made n).opn = (10, DevS.made n, none) := by
    unfold DevS.opn; rw [hde, hfind]; rfl
  refine ⟨DevS.made n, ((DevS.made n).fmt 50).2, by rw [hp0]; simp, fun w => new_yes n w (by omega) h2, fun S W p h => ?_, fun S W p h => ?_, fun S W p h => ?_, fun S W p l hl h => ?_⟩
  · have := format_any (w := W) 50 h (by rw [hp0]; simp)
    rw [f1] at this
    exact this
  · refine (open_any (w := W) h (by rw [f2]; simp)).mono fun e w' hO => ?_
    unfold Opened at hO
    rw [s1] at hO
    obtain ⟨S', h1, h2, h3, a, h4, h5, h6, h7⟩ := hO
    exact ⟨S', a, h1, h2, h3, h4, h5, h6, h7⟩
  · refine (open_any (w := W) h (by rw [hp0]; simp)).mono fun e w' hO => ?_
    unfold Opened at hO
    rw [hopn] at hO
    obtain ⟨S', h1, h2, h3, h4⟩ := hO
    exact ⟨h4, h3⟩
  · have e : (DevS.made n).fmt l = (2, DevS.made n) := by unfold DevS.fmt; rw [hln, if_pos (.inr hl)]
    have := format_any (w := W) l h (by rw [hp0]; simp)
    rw [e] at this
    exact this

end
end Go.Proofs.Ytpoekkclkohanaa
/- The chapter's examples: shown returns true. -/
namespace Go.Proofs.Ytpoekkclkohanaa
open Go.RowKit
open Fr (SlW)

section
variable {D : DevS} {J : JS} {L : List Wr} {n N : Nat} {H : Nat → ByteArray} {F : List (List Wr)}
theorem nf_addF (J : JS) (top : ByteArray) (ds : List ByteArray) (h : D.fused = false) : NF D (J.addF D top ds).2.1 := by
  have h1 := nf_stl (J.dataW ds) h
  unfold JS.addF
  simp only
  split
  · exact h1
  · have h2 := nf_stl [(((J.pos 0 : Nat) : Int), top)] h1.1
    split
    · exact ⟨h2.1, h2.2.trans h1.2⟩
    · exact ⟨h2.1, h2.2.trans h1.2⟩
/-- A commit behind the checkpoint that may come first. -/
def comR (J : JS) (L : List Wr) (c : Int × DevS × JS) : Int × DevS × JS :=
  if c.1 ≠ 0 then c else if (c.2.2.addF c.2.1 (Fr.bs (Fr.topL J.next L)) (L.map (·.2))).1 ≠ 0 then c.2.2.addF c.2.1 (Fr.bs (Fr.topL J.next L)) (L.map (·.2)) else
    (((c.2.2.addF c.2.1 (Fr.bs (Fr.topL J.next L)) (L.map (·.2))).2.1.wrs L).1, ((c.2.2.addF c.2.1 (Fr.bs (Fr.topL J.next L)) (L.map (·.2))).2.1.wrs L).2, (c.2.2.addF c.2.1 (Fr.bs (Fr.topL J.next L)) (L.map (·.2))).2.2)
theorem commit_eq (J : JS) (D : DevS) (L : List Wr) : J.commit D L = if J.chk D.disk.length L ≠ 0 then ((J.chk D.disk.length L : Int), D, J) else comR J L (if J.left < L.length + 2 then J.ckp D else (0, D, J)) := rfl
theorem nf_comR {c : Int × DevS × JS} (hc : NF D c.2.1) : NF D (comR J L c).2.1 := by
  unfold comR
  split
  · exact hc
  · have h2 := nf_addF c.2.2 (Fr.bs (Fr.topL J.next L)) (L.map (·.2)) hc.1
    split
    · exact ⟨h2.1, h2.2.trans hc.2⟩
    · have h3 := nf_wrs L _ h2.1
      exact ⟨h3.1, h3.2.trans (h2.2.trans hc.2)⟩
theorem nf_commit (J : JS) (L : List Wr) (h : D.fused = false) : NF D (J.commit D L).2.1 := by
  rw [commit_eq]
  by_cases hk : J.chk D.disk.length L ≠ 0
  · rw [if_pos hk]; exact ⟨h, rfl⟩
  · rw [if_neg hk]
    apply nf_comR
    by_cases hl : J.left < L.length + 2
    · rw [if_pos hl]; exact nf_ckp J h
    · rw [if_neg hl]; exact ⟨h, rfl⟩
theorem comR_J {c : Int × DevS × JS} (h : (comR J L c).1 = 0) : c.1 = 0 ∧ (comR J L c).2.2 = c.2.2.grow (L.length + 1) := by
  unfold comR at *
  by_cases h1 : c.1 ≠ 0
  · rw [if_pos h1] at h; exact absurd h h1
  · rw [if_neg h1] at h ⊢
    by_cases h2 : (c.2.2.addF c.2.1 (Fr.bs (Fr.topL J.next L)) (L.map (·.2))).1 ≠ 0
    · rw [if_pos h2] at h; exact absurd h h2
    · rw [if_neg h2]
      refine ⟨by simpa using h1, ?_⟩
      show (c.2.2.addF c.2.1 (Fr.bs (Fr.topL J.next L)) (L.map (·.2))).2.2 = _
      rw [JS.addF_good (by simpa using h2), List.length_map]
theorem commit_J (h : (J.commit D L).1 = 0) : (J.commit D L).2.2 = (if J.left < L.length + 2 then J.next' else J).grow (L.length + 1) ∧ J.chk D.disk.length L = 0 := by
  rw [commit_eq] at *
  by_cases hk : J.chk D.disk.length L ≠ 0
  · rw [if_pos hk] at h
    have : (J.chk D.disk.length L : Int) = 0 := h
    omega
  · rw [if_neg hk] at h ⊢
    obtain ⟨h1, h2⟩ := comR_J h
    refine ⟨?_, by simpa using hk⟩
    rw [h2]
    by_cases hl : J.left < L.length + 2
    · rw [if_pos hl] at h1
      rw [if_pos hl, if_pos hl, JS.ckp_good h1]
    · rw [if_neg hl, if_neg hl]
/-- A commit without a fuse. -/
theorem commit_sure (h : Sync N n J D H F) (hN : N + 2 < 1000000) (hc : J.chk n L = 0) (hf : D.fused = false) :
    (J.commit D L).1 = 0 ∧ (∃ F', Sync (N + 2) n (J.commit D L).2.2 (J.commit D L).2.1 (put H L) (F' ++ [L])) ∧ (J.commit D L).2.2 = (if J.left < L.length + 2 then J.next' else J).grow (L.length + 1) ∧ (J.commit D L).2.1.fused = false := by
  rcases commit_safe h hN hc with ⟨a, b⟩ | ⟨a, b⟩
  · exact ⟨a, b, (commit_J a).1, (nf_commit J L hf).1⟩
  · have := (nf_commit J L hf).2
    rw [b.dead, h.pre.live] at this
    cases this
end

theorem comR_len {J : JS} {L : List Wr} {c : Int × DevS × JS} {m : Nat} (hc : c.2.1.pend.length ≤ m) : (comR J L c).2.1.pend.length ≤ m + 2 * L.length + 2 := by
  unfold comR
  have h1 := JS.addF_len (J := c.2.2) (D := c.2.1) (top := Fr.bs (Fr.topL J.next L)) (ds := L.map (·.2))
  rw [List.length_map] at h1
  split
  · omega
  · split
    · omega
    · have h2 := (c.2.2.addF c.2.1 (Fr.bs (Fr.topL J.next L)) (L.map (·.2))).2.1.wrs_len L
      simp only
      omega
theorem commit_len (J : JS) (D : DevS) (L : List Wr) : (J.commit D L).2.1.pend.length ≤ D.pend.length + 2 * L.length + 4 := by
  rw [commit_eq]
  by_cases hk : J.chk D.disk.length L ≠ 0
  · rw [if_pos hk]; show D.pend.length ≤ _; omega
  · rw [if_neg hk]
    by_cases hl : J.left < L.length + 2
    · rw [if_pos hl]
      have := comR_len (J := J) (L := L) (c := J.ckp D) (m := D.pend.length + 2) JS.ckp_len
      omega
    · rw [if_neg hl]
      have := comR_len (J := J) (L := L) (c := (0, D, J)) (m := D.pend.length) (Nat.le_refl _)
      omega
theorem commit_bad (J : JS) (D : DevS) (L : List Wr) (h : J.chk D.disk.length L ≠ 0) : J.commit D L = ((J.chk D.disk.length L : Int), D, J) := by rw [commit_eq, if_pos h]
/-- The examples' commits. -/
theorem shown_math {DB : DevS} {TA TB : ByteArray} (hsy : Sync 2 60 Jb DB (fun _ => noughts) []) (hp : DB.pend = []) (hf : DB.fused = false) (zA : TA.size = 256) (zB : TB.size = 256) :
    ∃ DC, Jb.commit DB [(53, TA), (59, TB)] = (0, DC, Jb.grow 3) ∧ DC.rd 53 = (TA, 0) ∧ DC.pend.length ≤ 1000 ∧ (Jb.grow 3).commit DC [(51, TA)] = (2, DC, Jb.grow 3) ∧ (Jb.grow 3).Ok DC.disk.length := by
  have hhome : Jb.home = 52 := rfl
  have hc : Jb.chk 60 [(53, TA), (59, TB)] = 0 := by
    refine (Jb.chk_ok 60 _).2 ⟨by simp, by simp, fun x hx => ?_⟩
    simp only [List.mem_cons, List.not_mem_nil, or_false] at hx
    rcases hx with rfl | rfl
    · exact ⟨by rw [hhome]; show ((52 : Nat) : Int) ≤ 53; omega, by show (53 : Int) < ((60 : Nat) : Int); omega, zA⟩
    · exact ⟨by rw [hhome]; show ((52 : Nat) : Int) ≤ 59; omega, by show (59 : Int) < ((60 : Nat) : Int); omega, zB⟩
  obtain ⟨a1, ⟨F', a2⟩, a3, a4⟩ := commit_sure hsy (by omega) hc hf
  have hl : ¬ Jb.left < [((53 : Int), TA), (59, TB)].length + 2 := by
    have : Jb.left = 50 := rfl
    rw [this]; simp
  rw [if_neg hl] at a3
  have hlen := commit_len Jb DB [(53, TA), (59, TB)]
  rw [hp] at hlen
  generalize hR : Jb.commit DB [(53, TA), (59, TB)] = R at *
  obtain ⟨e, DC, JC⟩ := R
  simp only at a1 a2 a3 a4 hlen
  have a3' : JC = Jb.grow 3 := a3
  subst a1 a3'
  refine ⟨DC, rfl, ?_, by simp at hlen; omega, ?_, by rw [a2.pre.len]; exact a2.pre.good.ok⟩
  · have h1 := a2.pre.read 53 (by omega) (by omega)
    have h2 := DevS.rd_live a2.pre.live 53 (by rw [a2.pre.len]; omega)
    rw [h1] at h2
    rw [show ((53 : Nat) : Int) = 53 from rfl] at h2
    have hput : put (fun _ => noughts) [(53, TA), (59, TB)] 53 = TA := by
      unfold put
      exact vN_unique (P := natW [(53, TA), (59, TB)]) (x := (53, TA)) (by simp [natW]) (fun y hy he => by
        simp [natW] at hy
        rcases hy with rfl | rfl
        · rfl
        · simp at he)
    rw [h2, hput]
  · have hb : (Jb.grow 3).chk DC.disk.length [(51, TA)] = 2 := by
      unfold JS.chk
      rw [if_neg (by simp)]
      unfold JS.chkL JS.chk1
      have h51 : ((51 : Int), TA).1 < ((Jb.grow 3).home : Int) := by show (51 : Int) < ((52 : Nat) : Int); omega
      rw [if_neg (by rw [if_pos (.inl h51)]; omega), if_pos (.inl h51)]
    rw [commit_bad _ _ _ (by rw [hb]; decide), hb]
    rfl
theorem two_writes (w : World) (i j : Int) (s t : ByteArray) : SlW (w.alloc (.cells #[.int .i64 i, .string s, .int .i64 j, .string t] 58)) (.slice (some ⟨w.heap.size, 0, none⟩) 2 2) [(i, s), (j, t)] := by
  refine ⟨_, 2, rfl, Nat.le_refl _, .inr ⟨w.heap.size, 0, rfl, by simp, fun k hk => ?_⟩⟩
  have : k = 0 ∨ k = 1 := by simp at hk; omega
  rcases this with rfl | rfl
  · exact ⟨by rw [cell_at (heap_alloc_new ..)]; rfl, by rw [cell_at (heap_alloc_new ..)]; rfl⟩
  · exact ⟨by rw [cell_at (heap_alloc_new ..)]; rfl, by rw [cell_at (heap_alloc_new ..)]; rfl⟩

set_option maxRecDepth 100000 in
set_option maxHeartbeats 2000000 in
theorem shown_any (w : World) : Calls Try.prog 4 #[] w fun e w' => e = .returned (.bool true) ∧ Below w.heap.size w w' := by
  obtain ⟨Z, DF, _, cn, cf, co, cz, cr⟩ := begin_pack 60 (by omega) (by omega)
  have CN := Lib.hid cn; have CF := Lib.hid cf; have CO := Lib.hid co; have CZ := Lib.hid cz
  have CR : Hid (∀ (S : Nat → Prop) W p, Stands S W p Z → Calls Try.prog 18 #[.pointer (some ⟨p, 0, none⟩), .int .i64 58] W fun e w' => e = .returned (.int .i64 2) ∧ Leaves S W w' p Z) := fun S W p h => cr S W p 58 (by omega) h
  clear cn cf co cz cr
  obtain ⟨_, hsy, hpn, hfu⟩ := begin_sync 60 (by omega) (by omega)
  have HSY := Lib.hid hsy; have HFU := Lib.hid hfu; have HPN := Lib.hid hpn
  clear hsy hfu hpn
  generalize Db 60 = DB at *
  go_enter Try.func4, Try.ntmps4
  go_wp2_with fail
  refine (CN.out _).mono ?_
  rintro e w1 ⟨pd, rfl, hf1⟩
  obtain ⟨S1, hS1, hs1, hb1⟩ := hf1
  have HS1 := Lib.hid hS1; have HB1 := Lib.hid hb1; have HD1 := Lib.hid hs1
  clear hS1 hb1 hs1
  go_wp2_with fail
  refine (CN.out _).mono ?_
  rintro e w2 ⟨pc, rfl, hf2⟩
  obtain ⟨S2, hS2, hs2, hb2⟩ := hf2
  have HS2 := Lib.hid hS2; have HB2 := Lib.hid hb2; have HC2 := Lib.hid hs2
  have HD2 := Lib.hid (HD1.out.below hb2)
  clear hS2 hb2 hs2
  go_wp2_with fail
  refine (CR.out S1 w2 pd HD2.out).mono ?_
  rintro e w3 ⟨rfl, hv3⟩
  obtain ⟨S3, hS3, hs3, ho3⟩ := hv3
  have hz1 := HB1.out.size; have hz2 := HB2.out.size
  have hl1 := HD1.out.lt
  have HDis3 : Hid (∀ k, S3 k → ¬ S2 k) := fun k hk h2 => by
    have h3 := HS2.out k h2; have h4 := HC2.out.lt k h2
    rcases hS3 k hk with h | h
    · have := hl1 k h; omega
    · omega
  have HC3 : Hid (Stands S2 w3 pc Z) := HC2.out.kept ho3 (fun k hk h1 => by have := HS2.out k hk; have := hl1 k h1; omega)
  have HD3 := Lib.hid hs3
  have HB3 : Hid (Below w.heap.size w w3) := (HB1.out.trans (HB2.out.mono hz1)).trans (ho3.below (by omega) (fun k _ hk => HS1.out k hk))
  have HS3 : Hid (∀ k, S3 k → w.heap.size ≤ k) := fun k hk => by rcases hS3 k hk with h | h; exact HS1.out k h; omega
  clear hS3 hs3 ho3 hl1
  go_wp2_with fail
  refine (CF.out S3 w3 pd HD3.out).mono ?_
  rintro e w4 ⟨rfl, hv4⟩
  obtain ⟨S4, hS4, hs4, ho4⟩ := hv4
  have hz3 := HB3.out.size
  have HDis4 : Hid (∀ k, S4 k → ¬ S2 k) := fun k hk h2 => by
    rcases hS4 k hk with h | h
    · exact HDis3.out k h h2
    · have := HC3.out.lt k h2; omega
  have HC4 : Hid (Stands S2 w4 pc Z) := HC3.out.kept ho4 (fun k hk h1 => HDis3.out k h1 hk)
  have HD4 := Lib.hid hs4
  have HB4 : Hid (Below w.heap.size w w4) := HB3.out.trans (ho4.below hz3 (fun k _ hk => HS3.out k hk))
  have HS4 : Hid (∀ k, S4 k → w.heap.size ≤ k) := fun k hk => by rcases hS4 k hk with h | h; exact HS3.out k h; omega
  clear hS4 hs4 ho4
  go_wp2_with fail
  refine (CZ.out S2 w4 pc HC4.out).mono ?_
  rintro e w5 ⟨rfl, ho5⟩
  have hz4 := HB4.out.size
  have HD5 : Hid (Stands S4 w5 pd DF) := HD4.out.kept ho5 (fun k hk h1 => HDis4.out k hk h1)
  have HB5 : Hid (Below w.heap.size w w5) := HB4.out.trans (ho5.below hz4 (fun k _ hk => by have := HS2.out k hk; omega))
  clear ho5 HD4 HC4 HC3 HC2 HD3 HD2 HD1
  go_wp2_with fail
  refine (CO.out S4 w5 pd HD5.out).mono ?_
  rintro e w6 ⟨S6, a, hS6, hs6, ho6, rfl, ha6, hna6, hj6⟩
  have hz5 := HB5.out.size
  have HB6 : Hid (Below w.heap.size w w6) := HB5.out.trans (ho6.below hz5 (fun k _ hk => HS4.out k hk))
  have HS6 : Hid (∀ k, S6 k → w.heap.size ≤ k) := fun k hk => by rcases hS6 k hk with h | h; exact HS4.out k h; omega
  have HD6 := Lib.hid hs6; have HJ6 := Lib.hid hj6; have HNA := Lib.hid hna6
  have HA6 : Hid (w.heap.size ≤ a) := by show _ ≤ _; omega
  clear hS6 hs6 ho6 hna6 hj6 ha6 HD5 HB5 HB4 HB3 HB2 HB1 HS4 HS3 HS2 HS1 HDis3 HDis4 hz1 hz2 hz3 hz4 hz5 CN CF CO CZ CR
  have CHo : Hid (∀ W, Jr 64 W a pd Jb → Calls Try.prog 16 #[.pointer (some ⟨a, 0, none⟩)] W fun e w' => e = .returned (.int .i64 52) ∧ W = w') := fun W h => home_any h (by decide)
  have CSq : Hid (∀ W, Jr 64 W a pd Jb → Calls Try.prog 15 #[.pointer (some ⟨a, 0, none⟩)] W fun e w' => e = .returned (.int .u64 1) ∧ W = w') := fun W h => seq_any h
  have CUs : Hid (∀ W, Jr 64 W a pd Jb → Calls Try.prog 20 #[.pointer (some ⟨a, 0, none⟩)] W fun e w' => e = .returned (.int .i64 0) ∧ W = w') := fun W h => used_any h
  go_wp2_with fail
  refine (CHo.out _ HJ6.out).mono ?_
  rintro e w7 ⟨rfl, rfl⟩
  go_wp2_with fail
  refine (CSq.out _ HJ6.out).mono ?_
  rintro e w7 ⟨rfl, rfl⟩
  go_wp2_with fail
  refine (CUs.out _ HJ6.out).mono ?_
  rintro e w7 ⟨rfl, rfl⟩
  obtain ⟨TA, hTA⟩ : ∃ T, textOf (fun _ => 97) = T := ⟨_, rfl⟩
  obtain ⟨TB, hTB⟩ : ∃ T, textOf (fun _ => 98) = T := ⟨_, rfl⟩
  have zA : TA.size = 256 := by rw [← hTA]; exact textOf_size _
  have zB : TB.size = 256 := by rw [← hTB]; exact textOf_size _
  have CA : Hid (∀ W, Calls Try.prog 22 #[.int .u8 97] W fun e w' => e = .returned (.string TA) ∧ Below W.heap.size W w') := fun W => by rw [← hTA]; exact full_any 97 W
  have CB : Hid (∀ W, Calls Try.prog 22 #[.int .u8 98] W fun e w' => e = .returned (.string TB) ∧ Below W.heap.size W w') := fun W => by rw [← hTB]; exact full_any 98 W
  clear hTA hTB
  go_wp2_with fail
  refine (CA.out _).mono ?_
  rintro e w8 ⟨rfl, hb8⟩
  have HB8 := Lib.hid hb8; clear hb8
  go_wp2_with fail
  refine (CB.out _).mono ?_
  rintro e w9 ⟨rfl, hb9⟩
  have HB9 := Lib.hid (HB8.out.trans (hb9.mono HB8.out.size)); clear hb9 HB8
  go_wp2_with fail
  obtain ⟨DC, m1, m2, m3, m4, m5⟩ := shown_math HSY.out HPN.out HFU.out zA zB
  have hba : Below w9.heap.size w9 (w9.alloc (.cells #[.int .i64 53, .string TA, .int .i64 59, .string TB] 58)) := (Below.refl _ _).alloc (Nat.le_refl _) _
  have hb10 : Below w6.heap.size w6 (w9.alloc (.cells #[.int .i64 53, .string TA, .int .i64 59, .string TB] 58)) := HB9.out.trans (hba.mono HB9.out.size)
  have hza := HJ6.out.lt
  have hz9 := HB9.out.size
  have CC := Lib.hid (commit_any (L := [(53, TA), (59, TB)]) (HJ6.out.below hb10) (HD6.out.below hb10) HNA.out (by rw [HSY.out.pre.len]; exact HSY.out.pre.good.ok) (by rw [HPN.out]; simp) (by simp) (fun x hx => by
      simp only [List.mem_cons, List.not_mem_nil, or_false] at hx
      rcases hx with rfl | rfl
      · rw [zA]; unfold maxLen; omega
      · rw [zB]; unfold maxLen; omega) (two_writes w9 53 59 TA TB) (fun g off n' c' hv hg => by cases hv; have := HD6.out.lt _ hg; omega) ⟨fun g off n' c' hv => by cases hv; simp, fun g off n' c' hv => by cases hv; omega⟩)
  rw [m1] at CC
  have HBa := Lib.hid hb10
  have HM2 := Lib.hid m2; have HM4 := Lib.hid m4; have HM5 := Lib.hid m5; have HM3 := Lib.hid m3
  clear hba hb10 m1 m2 m3 m4 m5 zB
  refine CC.out.mono ?_
  rintro e w10 ⟨rfl, hv10⟩
  obtain ⟨S10, hS10, hs10, hj10, ho10⟩ := hv10
  have hz6 := HB6.out.size
  have HB10 : Hid (Below w.heap.size w w10) := by
    have h1 := HB6.out.trans (HBa.out.mono hz6)
    exact h1.trans (ho10.below h1.size (fun k _ hk => by rcases hk with hk | hk; exact HS6.out k hk; rw [hk]; exact HA6.out))
  have HS10 : Hid (∀ k, S10 k → w.heap.size ≤ k) := fun k hk => by
    rcases hS10 k hk with h | h
    · exact HS6.out k h
    · have := HBa.out.size; omega
  have HD10 : Hid (Stands S10 w10 pd DC) := hs10
  have HJ10 : Hid (Jr 64 w10 a pd (Jb.grow 3)) := hj10
  have HN10 : Hid (¬ S10 a) := fun h => by
    rcases hS10 a h with h | h
    · exact HNA.out h
    · have := HBa.out.size; omega
  clear hS10 hs10 hj10 ho10 CC HBa HD6 HJ6 HB9 CHo CSq CUs
  simp only
  have CRd : Hid (∀ W, Below w10.heap.size w10 W → Calls Try.prog 23 #[.pointer (some ⟨pd, 0, none⟩), .int .i64 53] W fun e w' => e = .returned (.tuple #[.string TA, .int .i64 0]) ∧ Below W.heap.size W w') := fun W hW => by
    have := read_any 53 (by have := HM3.out; omega) (HD10.out.below hW)
    rw [HM2.out] at this; exact this
  have CSq : Hid (∀ W, Jr 64 W a pd (Jb.grow 3) → Calls Try.prog 15 #[.pointer (some ⟨a, 0, none⟩)] W fun e w' => e = .returned (.int .u64 2) ∧ W = w') := fun W h => seq_any h
  have CUs : Hid (∀ W, Jr 64 W a pd (Jb.grow 3) → Calls Try.prog 20 #[.pointer (some ⟨a, 0, none⟩)] W fun e w' => e = .returned (.int .i64 3) ∧ W = w') := fun W h => used_any h
  have ca := HJ10.out.c0
  go_wp2_with fail
  refine (CRd.out _ (Below.refl _ _)).mono ?_
  rintro e w11 ⟨rfl, hb11⟩
  have HB11 := Lib.hid hb11; clear hb11
  have HJ11 := Lib.hid (HJ10.out.below HB11.out)
  go_wp2_with fail
  refine (CSq.out _ HJ11.out).mono ?_
  rintro e w12 ⟨rfl, rfl⟩
  go_wp2_with fail
  refine (CUs.out _ HJ11.out).mono ?_
  rintro e w12 ⟨rfl, rfl⟩
  go_wp2_with fail
  refine (CA.out _).mono ?_
  rintro e w12 ⟨rfl, hb12⟩
  have HB12 := Lib.hid (HB11.out.trans (hb12.mono HB11.out.size)); clear hb12 HB11 HJ11
  have hTT : (TA.toList == TA.toList) = true := by simp
  go_wp2_with fail
  refine (CA.out _).mono ?_
  rintro e w13 ⟨rfl, hb13⟩
  have HB13 := Lib.hid (HB12.out.trans (hb13.mono HB12.out.size)); clear hb13 HB12
  go_wp2_with fail
  have hba : Below w13.heap.size w13 (w13.alloc (.cells #[.int .i64 51, .string TA] 58)) := (Below.refl _ _).alloc (Nat.le_refl _) _
  have hb14 : Below w10.heap.size w10 (w13.alloc (.cells #[.int .i64 51, .string TA] 58)) := HB13.out.trans (hba.mono HB13.out.size)
  have hz13 := HB13.out.size
  have hla := HJ10.out.lt
  have CC := Lib.hid (commit_any (L := [(51, TA)]) (HJ10.out.below hb14) (HD10.out.below hb14) HN10.out HM5.out (by have := HM3.out; omega) (by simp) (fun x hx => by
      simp only [List.mem_cons, List.not_mem_nil, or_false] at hx
      subst hx
      rw [zA]; unfold maxLen; omega) (one_write w13 51 TA) (fun g off n' c' hv hg => by cases hv; have := HD10.out.lt _ hg; omega) ⟨fun g off n' c' hv => by cases hv; simp, fun g off n' c' hv => by cases hv; omega⟩)
  rw [HM4.out] at CC
  have HBz : Hid (Below w.heap.size w (w13.alloc (.cells #[.int .i64 51, .string TA] 58))) := HB10.out.trans (hb14.mono HB10.out.size)
  clear hba hb14
  refine CC.out.mono ?_
  rintro e w15 ⟨rfl, hv15⟩
  obtain ⟨S15, _, _, _, ho15⟩ := hv15
  have HBf : Hid (Below w.heap.size w w15) := HBz.out.trans (ho15.below HBz.out.size (fun k _ hk => by rcases hk with hk | hk; exact HS10.out k hk; rw [hk]; exact HA6.out))
  clear ho15
  simp only
  go_wp2
  go_ret
  exact ⟨rfl, HBf.out⟩
end Go.Proofs.Ytpoekkclkohanaa

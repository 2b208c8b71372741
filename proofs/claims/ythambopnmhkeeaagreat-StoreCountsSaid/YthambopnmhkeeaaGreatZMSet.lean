/- What Set answers: the bits turned on or off, or nothing. -/
import Derived.Test.YthambopnmhkeeaaGreatZMGet
import Derived.Laws.IdiomStrings
import Derived.Deep.RegionWith

set_option maxRecDepth 100000
namespace Go.Proofs.YthambopnmhkeeaaGreat.Bm
open Go.RowKit
def bs (l : List UInt8) : ByteArray := ⟨⟨l⟩⟩
theorem bs_size (l : List UInt8) : (bs l).size = l.length := rfl
theorem bs_data (l : List UInt8) : (bs l).data.toList = l := rfl
def FRow (w : World) (g : Nat) (l : List UInt8) : Prop := ∀ j (h : j < l.length), w.cell? ⟨g, j, none⟩ = some (.int .u8 (l[j].toNat : Int)) /\ w.frozen? ⟨g, j, none⟩ = false
theorem bytes_new (w : World) (s : ByteArray) : ∃ cap W2, (convert 9 107 (.string s)).run Tryz.prog w = .ok (.slice (some ⟨w.heap.size, 0, none⟩) s.size cap) W2 /\ FRow W2 w.heap.size s.data.toList /\ Below w.heap.size w W2 /\ w.heap.size < W2.heap.size := by
 refine ⟨_, _, run_bytes_of_string w 9 107 5 s Tryz.underlying9 Tryz.underlying107 Tryz.underlying5, ?_, (Below.refl _ _).drew.alloc (Nat.le_refl _) _, by simp⟩
 intro j hj
 have hj' : j < s.size := by rw [str_len] at hj; exact hj
 have hsz : s.size <= (bytesRow s (grownCap w s.size 0 5)).size := by unfold bytesRow; rw [Array.size_append, Array.size_map]; exact Nat.le_add_right _ _
 refine ⟨?_, ?_⟩
 ·rw [show w.heap.size = w.drew.heap.size from rfl, World.cell?_alloc_mark]
  unfold bytesRow
  rw [Array.getElem?_append_left (by rw [Array.size_map]; exact hj'), Array.getElem?_map, Array.getElem?_eq_getElem (show j < s.data.size from hj')]
  rfl
 ·rw [show w.heap.size = w.drew.heap.size from rfl, World.frozen?_alloc_mark, decide_eq_false (by omega)]; rfl
theorem FRow.put {w : World} {g : Nat} {l : List UInt8} (h : FRow w g l) (i : Nat) (hi : i < l.length) (b : UInt8) : FRow (w.setCell ⟨g, i, none⟩ (.int .u8 (b.toNat : Int))) g (l.set i b) := by
 intro j hj
 have hj' : j < l.length := by simpa using hj
 refine ⟨?_, by rw [World.frozen?_setCell]; exact (h j hj').2⟩
 by_cases e : j = i
 ·subst e
  rw [World.cell?_setCell_same' _ _ _ (by rw [(h j hj').1]; rfl)]
  simp
 ·rw [World.cell?_setCell_other _ _ _ _ (by simp), (h j hj').1]
  simp [Ne.symm e]
theorem FRow.text {w : World} {g cap : Nat} {l : List UInt8} (h : FRow w g l) : (convert 107 9 (.slice (some ⟨g, 0, none⟩) l.length cap)).run Tryz.prog w = .ok (.string (bs l)) w :=
 run_convert_bytes_back w 107 9 5 ⟨g, 0, none⟩ cap l Tryz.underlying107 Tryz.underlying5 Tryz.underlying9 (fun j hj => by
  rw [show (⟨g, 0, none⟩ : Addr).add j = ⟨g, 0 + j, none⟩ by unfold Addr.add; split <;> simp_all, Nat.zero_add]
  exact (h j hj).1)
theorem FRow.drewN {w : World} {g : Nat} {l : List UInt8} (h : FRow w g l) (n : Nat) : FRow (w.drewN n) g l := h
theorem FRow.drew {w : World} {g : Nat} {l : List UInt8} (h : FRow w g l) : FRow w.drew g l := h
theorem FRow.below {w w' : World} {g : Nat} {l : List UInt8} (h : FRow w g l) (hb : Below w.heap.size w w') (hg : g < w.heap.size) : FRow w' g l := fun j hj =>
 ⟨(hb.cell (p := ⟨g, j, none⟩) hg).trans (h j hj).1, (hb.frozen (p := ⟨g, j, none⟩) hg).trans (h j hj).2⟩
theorem or_all : ∀ b : Fin 256, ∀ r : Fin 8, (b.1 ||| 2 ^ r.1) = (byte1 (UInt8.ofNat b.1) r.1 true).toNat := by decide +kernel
theorem andNot_all : ∀ b : Fin 256, ∀ r : Fin 8, (b.1 &&& (255 - 2 ^ r.1)) = (byte1 (UInt8.ofNat b.1) r.1 false).toNat := by decide +kernel
theorem or_vb (b : UInt8) (i : Nat) : bits .or .u8 (b.toNat : Int) ((vb i : Nat) : Int) = ((byte1 b (i % 8) true).toNat : Int) := by
 rw [u8_or_nat _ _ b.toNat_lt (vb_lt i)]
 have := or_all ⟨b.toNat, b.toNat_lt⟩ ⟨i % 8, Nat.mod_lt _ (by omega)⟩
 simp only [UInt8.ofNat_toNat] at this
 rw [<- this]; rfl
theorem andNot_vb (b : UInt8) (i : Nat) : bits .andNot .u8 (b.toNat : Int) ((vb i : Nat) : Int) = ((byte1 b (i % 8) false).toNat : Int) := by
 rw [u8_andNot_nat _ _ b.toNat_lt (vb_lt i)]
 have := andNot_all ⟨b.toNat, b.toNat_lt⟩ ⟨i % 8, Nat.mod_lt _ (by omega)⟩
 simp only [UInt8.ofNat_toNat] at this
 rw [<- this]; rfl
theorem set1_at (l : List UInt8) (i : Nat) (on : Bool) (h : i / 8 < l.length) : set1 l i on = l.set (i / 8) (byte1 l[i / 8] (i % 8) on) := by
 unfold set1; rw [show l.getD (i / 8) 0 = l[i / 8] by rw [List.getD, List.getElem?_eq_getElem h]; rfl]
def setV (l : List UInt8) (a c : Int) (on : Bool) : Value := if 0 <= a /\ 0 <= c /\ a + c <= 8 * (l.length : Int) then .tuple #[.string (bs (stL l a.toNat on c.toNat)), .bool true] else .tuple #[.string ⟨#[]⟩, .bool false]
theorem setV_no {l : List UInt8} {a c : Int} {on : Bool} (h : ¬ (0 <= a /\ 0 <= c /\ a + c <= 8 * (l.length : Int))) : setV l a c on = .tuple #[.string ⟨#[]⟩, .bool false] := by unfold setV; rw [if_neg h]
theorem setV_yes (l : List UInt8) (a c : Nat) (on : Bool) (h : a + c <= 8 * l.length) : setV l (a : Int) (c : Int) on = .tuple #[.string (bs (stL l a on c)), .bool true] := by unfold setV; rw [if_pos (by omega)]; simp
set_option maxHeartbeats 2000000 in
theorem set_yes (s : ByteArray) (a c : Nat) (on : Bool) (w : World) (hs : s.size <= 1000000) (h : a + c <= 8 * s.size) :
  Calls Tryz.prog 63 #[.string s, .int .i64 (a : Int), .int .i64 (c : Int), .bool on] w fun e w' => e = .returned (.tuple #[.string (bs (stL s.data.toList a on c)), .bool true]) /\ Below w.heap.size w w' := by
 obtain ⟨cap, w2, hcv, hrow, hbel, _⟩ := bytes_new w s
 have HR := Lib.hid hrow; clear hrow
 have HB := Lib.hid hbel; clear hbel
 obtain ⟨g, hg⟩ : ∃ g, w.heap.size = g := ⟨_, rfl⟩
 rw [hg] at HR HB hcv ⊢
 have HG := Lib.hid hg; clear hg
 go_enter Tryz.func63, Tryz.ntmps63
 go_wp2_with (go_at_call 112; refine (size_any _ _ hs).mono ?_; rintro e w1 ⟨rfl, rfl⟩)
 clear hcv
 go_loopw [11] (fun i wr => ∃ (p : Nat) (l : List UInt8), a <= p /\ p <= a + c /\ i = .int .i64 (p : Int) /\ Hid (l = stL s.data.toList a on (p - a)) /\ Hid (FRow wr g l) /\ Hid (Below g w wr)) (fun i _ => a + c - (intOf i).toNat)
 case atStart => exact ⟨a, s.data.toList, Nat.le_refl _, by omega, rfl, by show _ = _; rw [Nat.sub_self]; rfl, HR, HB⟩
 case round =>
  clear HR HB
  obtain ⟨p, l, hp, hj, rfl, HL, HR, HB⟩ := hrel
  have HLn : Hid (l.length = s.size) := by show _ = _; rw [HL.out, stL_length, str_len]
  by_cases hlt : p < a + c
  ·have hq : p / 8 < l.length := by rw [HLn.out]; omega
   have hq1 : (p : Int) / 8 < (s.size : Int) := by omega
   have hq2 : ((p : Int) / 8).toNat = p / 8 := by omega
   have hq0 : 0 <= (p : Int) / 8 := by omega
   have hq3 : (p : Int).tdiv 8 = (p : Int) / 8 := Int.tdiv_eq_ediv_of_nonneg (by omega)
   have hq4 : IntKind.i64.wrap ((p : Int) / 8) = (p : Int) / 8 := IntWalk.i64_in _ (by omega)
   have hcell := (HR.out _ hq).1
   have hfr := (HR.out _ hq).2
   have HP := Lib.hid (HR.out.put _ hq (byte1 l[p / 8] (p % 8) on))
   have HL2 : Hid (l.set (p / 8) (byte1 l[p / 8] (p % 8) on) = stL s.data.toList a on (p + 1 - a)) := by show _ = _; rw [show p + 1 - a = (p - a) + 1 by omega, stL, <- HL.out, show a + (p - a) = p by omega, set1_at _ _ _ hq]
   have HV := Lib.hid fun W => value_any p W (by omega)
   cases on
   ·have HX := Lib.hid (andNot_vb l[p / 8] p)
    go_wp2
    go_region_with ((go_at_call 113; refine (HV.out _).mono ?_; rintro e w1 ⟨rfl, rfl⟩))
    all_goals
     rw [HX.out]
     clear hq3 hq4
     go_wp2
     go_roundw
     case rel => exact ⟨p + 1, _, by omega, by omega, by go_num, HL2, HP.out.drew, (HB.out.setCell (Nat.le_refl _) _).drew⟩
     case measure => simp [intOf]; omega
   ·have HX := Lib.hid (or_vb l[p / 8] p)
    go_wp2
    go_region_with ((go_at_call 113; refine (HV.out _).mono ?_; rintro e w1 ⟨rfl, rfl⟩))
    all_goals
     rw [HX.out]
     clear hq3 hq4
     go_wp2
     go_roundw
     case rel => exact ⟨p + 1, _, by omega, by omega, by go_num, HL2, HP.out.drew, (HB.out.setCell (Nat.le_refl _) _).drew⟩
     case measure => simp [intOf]; omega
  ·obtain rfl : p = a + c := by omega
   have hconv := HR.out.text (cap := cap)
   rw [HLn.out] at hconv
   have HL3 : Hid (stL s.data.toList a on c = l) := by show _ = _; rw [HL.out, show a + c - a = c by omega]
   go_wp2
   go_ret2
   exact ⟨by rw [HL3.out]; rfl, HB.out⟩
set_option maxHeartbeats 1000000 in
theorem set_no (s : ByteArray) (a c : Int) (on : Bool) (w : World) (hs : s.size <= 1000000) (ha : -9223372036854775808 <= a /\ a <= 9223372036854775807) (hc : -9223372036854775808 <= c /\ c <= 9223372036854775807) (h : ¬ (0 <= a /\ 0 <= c /\ a + c <= 8 * (s.size : Int))) :
  Calls Tryz.prog 63 #[.string s, .int .i64 a, .int .i64 c, .bool on] w fun e w' => e = .returned (.tuple #[.string ⟨#[]⟩, .bool false]) /\ Below w.heap.size w w' := by
 rcases (show a < 0 \/ (0 <= a /\ c < 0) \/ (0 <= a /\ 0 <= c /\ 8 * (s.size : Int) - a < c) by omega) with h1 | ⟨h1, h2⟩ | ⟨h1, h2, h3⟩
 all_goals
  clear h
  go_enter Tryz.func63, Tryz.ntmps63
  go_wp2_with (go_at_call 112; refine (size_any _ _ hs).mono ?_; rintro e w1 ⟨rfl, rfl⟩)
  go_ret2
  exact ⟨rfl, Below.refl _ _⟩
theorem set_any (s : ByteArray) (a c : Int) (on : Bool) (w : World) (hs : s.size <= 1000000) (ha : -9223372036854775808 <= a /\ a <= 9223372036854775807) (hc : -9223372036854775808 <= c /\ c <= 9223372036854775807) :
  Calls Tryz.prog 63 #[.string s, .int .i64 a, .int .i64 c, .bool on] w fun e w' => e = .returned (setV s.data.toList a c on) /\ Below w.heap.size w w' := by
 by_cases h : 0 <= a /\ 0 <= c /\ a + c <= 8 * (s.size : Int)
 ·obtain ⟨x, rfl⟩ := Int.eq_ofNat_of_zero_le h.1
  obtain ⟨y, rfl⟩ := Int.eq_ofNat_of_zero_le h.2.1
  rw [setV_yes _ _ _ _ (by rw [str_len]; omega)]
  exact set_yes s x y on w hs (by omega)
 ·rw [setV_no (by rw [str_len]; exact h)]
  exact set_no s a c on w hs ha hc h
end Go.Proofs.YthambopnmhkeeaaGreat.Bm

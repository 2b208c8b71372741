/- What the document's Unpack of postings answers. -/
import Derived.Test.YtjcajeilhcjneaaZPoOne
import Derived.Deep.DeepCutAuto
import Derived.Deep.CutBlock

namespace Go.Proofs.Ytjcajeilhcjneaa.Po
open Go.RowKit
open Fr (varL bs)
theorem grown_only {W W' : World} {o : Obj} {row : Option Nat} {S : Nat -> Prop} (h : (W.alloc o).grownBy W' row) (hS : ∀ q, row = some q -> S q) : Only S W W' := by
 have hsz : (W.alloc o).heap.size = W.heap.size + 1 := World.size_alloc _ _
 have h1 := h.size
 refine ⟨h.os, h.tape, h.output, by omega, fun k hk hn => ?_⟩
 rw [h.block k (by omega) (fun e => hn (hS k e.symm))]
 exact (Only.refl (fun _ => False) W).alloc o |>.block k hk (fun h => h)
theorem two_cellP {w : World} {t : TypeId} {x y : Value} {g : Nat} (hg : w.heap.size = g) : ∀ (j : Nat) (u : Value), [x, y][j]? = some u -> (w.alloc (.cells #[x, y] t)).cell? ((⟨g, 0, none⟩ : Addr).add j) = some u := by
 subst hg
 intro j u hu
 rw [add_atP, Nat.zero_add, cell_atP (heap_newP ..)]
 rw [<- hu]; simp
theorem own_kept {w w' : World} {B : Nat} {e : TypeId} {k : Nat} {v : Value} {n : Nat} {xs : List Value} {S : Nat -> Prop} (h : w.ownsRow B e k v n xs) (hb : Only S w w') (hne : ∀ q, v.ownBlock = some q -> ¬ S q) : w'.ownsRow B e k v n xs := by
 refine ⟨h.1, ?_⟩
 rcases h.2 with hn | ⟨g, cap, cur, rfl, hbg, hg, rest⟩
 ·exact .inl hn
 ·exact .inr ⟨g, cap, cur, rfl, hbg, by rw [hb.block g (Array.getElem?_eq_some_iff.1 hg).1 (hne g rfl)]; exact hg, rest⟩
theorem own_mono {w : World} {B B' : Nat} {e : TypeId} {k : Nat} {v : Value} {n : Nat} {xs : List Value} (h : w.ownsRow B e k v n xs) (hb : B' <= B) : w.ownsRow B' e k v n xs := ⟨h.1, by
 rcases h.2 with hn | ⟨g, cap, cur, rfl, hbg, rest⟩
 ·exact .inl hn
 ·exact .inr ⟨g, cap, cur, rfl, by omega, rest⟩⟩
theorem own_succ {w : World} {B : Nat} {e : TypeId} {k : Nat} {v : Value} {n : Nat} {xs : List Value} (h : w.ownsRow B e k v (n + 1) xs) : ∃ g cap, v = .slice (some ⟨g, 0, none⟩) (n + 1) cap := by
 rcases h.2 with ⟨_, h0⟩ | ⟨g, cap, _, rfl, _⟩
 ·omega
 ·exact ⟨g, cap, rfl⟩
end Go.Proofs.Ytjcajeilhcjneaa.Po

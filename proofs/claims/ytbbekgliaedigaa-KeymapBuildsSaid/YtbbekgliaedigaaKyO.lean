/- The law's keys of a map of keys (cordwainlaw12). -/
import Derived.Test.YtbbekgliaedigaaKyN
namespace Go.Proofs.Ytbbekgliaedigaa
open Go.RowKit Go.Maps
set_option maxRecDepth 20000

theorem key.hands (p b N : Nat) (most : Int) (g : ByteArray → Option Int) (ks : List ByteArray) (w : World) (h : KM w p b most N g) (hN : N ≤ 1000000) (hks : IsKeys g ks) (hri : ks.Pairwise fun x y => pf.lt x y = true) :
    Hands Fence.wide 4 Try.prog 93 #[.pointer (some ⟨w.heap.size, 0, none⟩)] ky.encs (KKp b) ky.R (ky.S (ky.pairs ks g)) (ky.Sp (ky.pairs ks g)) (ky.Nx (ky.pairs ks g)) (w.alloc (.cells #[.pointer (some ⟨p, 0, none⟩)] 28)) := by
  have hsrc : KSrc w.heap.size p b N most g (w.alloc (.cells #[.pointer (some ⟨p, 0, none⟩)] 28)) :=
    ⟨Blk.new _ _ _, h.keep ((Below.refl _ _).alloc (Nat.le_refl _) _)⟩
  intro lb J Jx W hW hJ _ hY h0
  exact key.all1_in 4 (by omega) lb w.heap.size p b N most g ks J Jx W hN hks hri (hsrc.keep (KKp.below hW)) hJ hY h0
theorem bytesOf_data (s : ByteArray) : bytesOf s.data.toList = s := rfl
/-- The keys, in rising order. -/
theorem SM.rising {w : World} {b N : Nat} {g : ByteArray → Option Int} (h : SM w b N g) : ∃ ks, IsKeys g ks ∧ ks.length = N ∧ ks.Pairwise fun x y => pf.lt x y = true := by
  obtain ⟨k0, hk, hl⟩ := h.keys
  have hnd : (k0.map fun s => s.data.toList).Nodup := List.pairwise_map.2 (hk.1.imp fun {a c} hne e => hne (by rw [← bytesOf_data a, e, bytesOf_data]))
  have hr := pf.sort_rises _ hnd
  have hmem : ∀ s, s ∈ ((k0.map fun s => s.data.toList).mergeSort fun x y => decide (x ≤ y)).map bytesOf ↔ s ∈ k0 := fun s => by
    rw [List.mem_map]
    constructor
    · rintro ⟨x, hx, rfl⟩
      obtain ⟨t, ht, rfl⟩ := List.mem_map.1 ((List.mergeSort_perm _ _).mem_iff.1 hx)
      exact ht
    · intro hs
      exact ⟨s.data.toList, (List.mergeSort_perm _ _).mem_iff.2 (List.mem_map.2 ⟨s, hs, rfl⟩), rfl⟩
  refine ⟨_, ⟨hr.imp fun {a c} hlt => pf.lt_ne hlt, fun s => by rw [hmem, hk.2]⟩, ?_, hr⟩
  rw [List.length_map, (List.mergeSort_perm _ _).length_eq, List.length_map, hl]
theorem law12.keysS (p b N : Nat) (most : Int) (g : ByteArray → Option Int) (ks : List ByteArray) (n : Int) (w : World) (h : KM w p b most N g) (hN : N ≤ 100000) (hl : ks.length = N) (hks : IsKeys g ks) (hri : ks.Pairwise fun x y => pf.lt x y = true) (hsz : ∀ s ∈ ks, s.size ≤ 1000000) (hn : 0 ≤ n) :
    Calls Try.prog 23 #[.pointer (some ⟨p, 0, none⟩), .int .i64 n] w fun e w' => ∃ v l, e = .returned v ∧ w'.ownsRow w.heap.size 122 3 v l.length (pf.row l) ∧ (∀ x ∈ l, PBytes w' x) ∧ (∃ k : Nat, (k = (ky.pairs ks g).length ∧ (k : Int) ≤ n ∨ k ≤ (ky.pairs ks g).length ∧ (k : Int) = n) ∧ l.map (fun x => (x.bs, x.vs, x.off)) = ((ky.pairs ks g).take k).map fun y => (y.1, [], y.2)) ∧ Below w.heap.size w w' :=
  law12.keys_of _ b (ky.pairs ks g) n w (by unfold ky.pairs; rw [List.length_map, hl]; exact hN) (fun y hy => by
    obtain ⟨s, hs, rfl⟩ := List.mem_map.1 hy
    show (strNats s).length ≤ 1000000
    rw [strNats_len]
    exact hsz s hs) hn h.map.lt fun w' hb => key.hands p b N most g ks w' (h.keep hb) (by omega) hks hri
end Go.Proofs.Ytbbekgliaedigaa

/- Contracts of package keymap: New, Offer, Last, Len. -/
import Derived.Test.YtnlfdhoabbbheaaMapS
namespace Go.Proofs.Ytnlfdhoabbbheaa
open Go.RowKit Go.Maps

/-- A key map at p, its map at b: room for 'most', N keys, g. -/
structure KM (w : World) (p b : Nat) (most : Int) (N : Nat) (g : ByteArray → Option Int) : Prop where
  blk : Blk w p 76 #[.int .i64 most, .map (some b)]
  map : SM w b N g
theorem KM.ne {w : World} {p b : Nat} {most : Int} {N : Nat} {g : ByteArray → Option Int} (h : KM w p b most N g) : p ≠ b := h.map.not_blk h.blk
theorem KM.below {w w' : World} {p b B : Nat} {most : Int} {N : Nat} {g : ByteArray → Option Int} (h : KM w p b most N g) (hb : Below B w w') (h1 : p < B) (h2 : b < B) : KM w' p b most N g :=
  ⟨(hb.block p h1).trans h.blk, h.map.below hb h2⟩
theorem KM.keep {w w' : World} {p b : Nat} {most : Int} {N : Nat} {g : ByteArray → Option Int} (h : KM w p b most N g) (hb : Below w.heap.size w w') : KM w' p b most N g := h.below hb h.blk.lt h.map.lt

def key.NewPost (w : World) (most : Int) (e : Ending) (w' : World) : Prop :=
  (∃ p b, e = .returned (.tuple #[.pointer (some ⟨p, 0, none⟩), .int .i64 0]) ∧ KM w' p b most 0 (fun _ => none) ∧ w.heap.size ≤ p ∧ w.heap.size ≤ b) ∧ Below w.heap.size w w'
set_option maxRecDepth 20000 in
theorem key.new_any (most : Int) (w : World) (h : 1 ≤ most ∧ most ≤ 1000000) :
    Calls Try.prog 32 #[.int .i64 most] w (key.NewPost w most) := by
  have h1 : ¬ most < 1 := by omega
  have h2 : ¬ 1000000 < most := by omega
  have hmm := @run_makeMap Try.prog
  go_enter Try.func32, Try.ntmps32
  go_wp2
  go_ret2
  refine ⟨⟨_, _, rfl, ⟨by simpa using Blk.new (w.alloc (.map #[] 0)) 76 #[.int .i64 most, .map (some w.heap.size)], (SM.made w).of_block ?_⟩, ?_, Nat.le_refl _⟩, ((Below.refl _ w).alloc (Nat.le_refl _) _).alloc ?_ _⟩
  · exact Below.heap_alloc _ _ _ (by simp)
  · simp
  · simp
set_option maxRecDepth 20000 in
theorem key.new_bad (most : Int) (w : World) (h : most < 1 ∨ 1000000 < most) :
    Calls Try.prog 32 #[.int .i64 most] w fun e w' => e = .returned (.tuple #[.pointer none, .int .i64 1]) ∧ w' = w := by
  by_cases h1 : most < 1
  · go_enter Try.func32, Try.ntmps32
    go_wp2
    go_ret2
    exact ⟨rfl, rfl⟩
  · have h2 : 1000000 < most := by omega
    go_enter Try.func32, Try.ntmps32
    go_wp2
    go_ret2
    exact ⟨rfl, rfl⟩

theorem key.len_any (p b : Nat) (most : Int) (N : Nat) (g : ByteArray → Option Int) (w : World) (h : KM w p b most N g) :
    Calls Try.prog 34 #[.pointer (some ⟨p, 0, none⟩)] w fun e w' => e = .returned (.int .i64 N) ∧ w' = w := by
  have hc := h.blk.cell 1 (v := .map (some b)) rfl
  have hlen := h.map.len
  clear h
  go_enter Try.func34, Try.ntmps34
  go_wp2
  go_ret
  exact ⟨rfl, rfl⟩

theorem key.last_any (p b : Nat) (most : Int) (N : Nat) (g : ByteArray → Option Int) (A : Option Addr) (c : Nat) (L : List Nat) (w : World) (h : KM w p b most N g) (hl : L.length ≤ maxLen) (hat : At w A L.length (byteAt L)) :
    Calls Try.prog 33 #[.pointer (some ⟨p, 0, none⟩), .slice A L.length c] w fun e w' => e = .returned (.tuple #[.int .i64 ((g (strOf L)).getD 0), .bool (g (strOf L)).isSome]) ∧ ∃ q, w' = w.drewN q := by
  have hc := h.blk.cell 1 (v := .map (some b)) rfl
  have hconv := fun q => conv_any (c := c) Try.underlying32 Try.underlying5 Try.underlying9 L rfl (hat.drew q)
  have hlook := fun q => (h.map.drew q).look (strOf L) (by rw [strOf_size]; exact hl)
  clear h hat
  generalize L.length = n at *
  generalize strOf L = s at *
  go_enter Try.func33, Try.ntmps33
  go_wp2_with fail
  go_quiet (fail)
  go_wp2
  go_ret2
  exact ⟨rfl, _, rfl⟩

/-- What Offer answers, how many keys it leaves, what it leaves at the keys. -/
def key.can (N : Nat) (most : Int) (g : ByteArray → Option Int) (s : ByteArray) : Bool := (g s).isSome || decide ((N : Int) < most)
def key.cnt (N : Nat) (most : Int) (g : ByteArray → Option Int) (s : ByteArray) : Nat := if (g s).isSome then N else if (N : Int) < most then N + 1 else N
def key.put (N : Nat) (most : Int) (g : ByteArray → Option Int) (s : ByteArray) (n : Int) : ByteArray → Option Int :=
  match g s with
  | some m => if m < n then upd g s n else g
  | none => if (N : Int) < most then upd g s n else g
def key.OfferPost (w : World) (p b : Nat) (most : Int) (N : Nat) (g : ByteArray → Option Int) (s : ByteArray) (n : Int) (e : Ending) (w' : World) : Prop :=
  e = .returned (.bool (key.can N most g s)) ∧ KM w' p b most (key.cnt N most g s) (key.put N most g s n) ∧ Chg w w' (fun k => k = b) ∧ w'.heap.size = w.heap.size

set_option maxRecDepth 20000 in
set_option maxHeartbeats 800000 in
theorem key.offer_any (p b : Nat) (most : Int) (N : Nat) (g : ByteArray → Option Int) (A : Option Addr) (c : Nat) (L : List Nat) (n : Int) (w : World) (h : KM w p b most N g) (hl : L.length ≤ maxLen) (hat : At w A L.length (byteAt L))
    (hn : -9223372036854775808 ≤ n ∧ n ≤ 9223372036854775807) (hN : N < maxLen) :
    Calls Try.prog 35 #[.pointer (some ⟨p, 0, none⟩), .slice A L.length c, .int .i64 n] w (key.OfferPost w p b most N g (strOf L) n) := by
  have hc0 := h.blk.cell 0 (v := .int .i64 most) rfl
  have hc1 := h.blk.cell 1 (v := .map (some b)) rfl
  have hconv := fun q => conv_any (c := c) Try.underlying32 Try.underlying5 Try.underlying9 L rfl (hat.drew q)
  have hs : (strOf L).size ≤ maxLen := by rw [strOf_size]; exact hl
  have hlook := fun q => (h.map.drew q).look (strOf L) hs
  have hlen := fun q => (h.map.drew q).len
  have H := Lib.hid h
  generalize L.length = k at *
  generalize strOf L = s at *
  clear h hat
  have hstore : ∀ (q : Nat) wq, w.drewN q = wq → KM wq.drew p b most N g ∧ (convert 32 9 (.slice A k c)).run Try.prog wq.drew = .ok (.string s) wq.drew ∧ ∀ w', Chg wq.drew w' (fun k => k = b) → Chg w w' (fun k => k = b) := by
    rintro q _ rfl
    exact ⟨⟨H.out.blk, H.out.map.of_block rfl⟩, hconv (q + 1), fun w' hc => ⟨hc.os, hc.tape, hc.output, hc.size, hc.block⟩⟩
  have HS := Lib.hid hstore; clear hstore
  have hput : ∀ wq w' (N' : Nat) (g' : ByteArray → Option Int), KM wq p b most N g → SM w' b N' g' → Chg wq w' (fun k => k = b) → KM w' p b most N' g' := fun wq w' N' g' h1 h2 h3 => ⟨h3.blk h1.blk h1.ne, h2⟩
  have HP := Lib.hid hput; clear hput
  cases hg : g s with
  | none =>
    rw [hg] at hlook
    simp only [Option.getD_none, Option.isSome_none] at hlook
    by_cases hr : (N : Int) < most
    · have hd : decide (most ≤ (N : Int)) = false := by simp; omega
      have CAN : Ending.returned (.bool true) = .returned (.bool (key.can N most g s)) := by simp [key.can, hg, hr]
      have CNT := Lib.hid (show key.cnt N most g s = if (g s).isSome then N else N + 1 by unfold key.cnt; rw [hg]; simp [hr])
      have PUT := Lib.hid (show key.put N most g s n = upd g s n by unfold key.put; rw [hg]; simp [hr])
      go_enter Try.func35, Try.ntmps35
      go_wp2_with fail
      go_quiet (fail)
      go_wp2_with fail
      go_quiet (fail)
      go_wp2_with fail
      rename_i nq0 K0 a0
      generalize hwq : w.drewN (nq0 + nq) = wq
      obtain ⟨hk, hcv, hup⟩ := HS.out _ _ hwq
      have hcq := hk.blk.cell 1 (v := .map (some b)) rfl
      have HK := Lib.hid hk; clear hk
      have HUP := Lib.hid hup; clear hup
      clear hconv hlook hlen hc0 hc1
      obtain ⟨w1, hrun1, hm1, hch1, hsz1⟩ := HK.out.map.store s hs n hn hN
      have HM1 := Lib.hid (HP.out _ _ _ _ HK.out hm1 hch1); have HC1 := Lib.hid (HUP.out _ hch1); have HZ1 := Lib.hid (show w1.heap.size = w.heap.size by rw [hsz1, ← hwq]; rfl); clear hm1 hch1 hsz1
      go_region
      all_goals
        go_wp2
        go_ret
        refine ⟨CAN, ?_, HC1.out, HZ1.out⟩
        rw [CNT.out, PUT.out]
        exact HM1.out
    · have hd : decide (most ≤ (N : Int)) = true := by simp; omega
      have CAN : Ending.returned (.bool false) = .returned (.bool (key.can N most g s)) := by simp [key.can, hg, hr]
      have CNT := Lib.hid (show key.cnt N most g s = N by unfold key.cnt; rw [hg]; simp [hr])
      have PUT := Lib.hid (show key.put N most g s n = g by unfold key.put; rw [hg]; simp [hr])
      go_enter Try.func35, Try.ntmps35
      go_wp2_with fail
      go_quiet (fail)
      go_wp2_with fail
      go_quiet (fail)
      go_wp2_with fail
      go_ret
      refine ⟨CAN, ?_, ⟨rfl, rfl, rfl, Nat.le_refl _, fun _ _ _ => rfl⟩, rfl⟩
      rw [CNT.out, PUT.out]
      exact ⟨H.out.blk, H.out.map.of_block rfl⟩
  | some m =>
    rw [hg] at hlook
    simp only [Option.getD_some, Option.isSome_some] at hlook
    by_cases hr : m < n
    · have hd : decide (m < n) = true := by simp; omega
      have CAN : Ending.returned (.bool true) = .returned (.bool (key.can N most g s)) := by simp [key.can, hg]
      have CNT := Lib.hid (show key.cnt N most g s = if (g s).isSome then N else N + 1 by unfold key.cnt; rw [hg]; rfl)
      have PUT := Lib.hid (show key.put N most g s n = upd g s n by unfold key.put; rw [hg]; simp [hr])
      go_enter Try.func35, Try.ntmps35
      go_wp2_with fail
      go_quiet (fail)
      go_wp2_with fail
      go_quiet (fail)
      go_wp2_with fail
      rename_i nq0 K0 a0
      generalize hwq : w.drewN (nq0 + nq) = wq
      obtain ⟨hk, hcv, hup⟩ := HS.out _ _ hwq
      have hcq := hk.blk.cell 1 (v := .map (some b)) rfl
      have HK := Lib.hid hk; clear hk
      have HUP := Lib.hid hup; clear hup
      clear hconv hlook hlen hc0 hc1
      obtain ⟨w1, hrun1, hm1, hch1, hsz1⟩ := HK.out.map.store s hs n hn hN
      have HM1 := Lib.hid (HP.out _ _ _ _ HK.out hm1 hch1); have HC1 := Lib.hid (HUP.out _ hch1); have HZ1 := Lib.hid (show w1.heap.size = w.heap.size by rw [hsz1, ← hwq]; rfl); clear hm1 hch1 hsz1
      go_region
      all_goals
        go_wp2
        go_ret
        refine ⟨CAN, ?_, HC1.out, HZ1.out⟩
        rw [CNT.out, PUT.out]
        exact HM1.out
    · have hd : decide (m < n) = false := by simp; omega
      have CAN : Ending.returned (.bool true) = .returned (.bool (key.can N most g s)) := by simp [key.can, hg]
      have CNT := Lib.hid (show key.cnt N most g s = N by unfold key.cnt; rw [hg]; rfl)
      have PUT := Lib.hid (show key.put N most g s n = g by unfold key.put; rw [hg]; simp [hr])
      go_enter Try.func35, Try.ntmps35
      go_wp2_with fail
      go_quiet (fail)
      go_wp2_with fail
      go_quiet (fail)
      go_wp2_with fail
      go_ret
      refine ⟨CAN, ?_, ⟨rfl, rfl, rfl, Nat.le_refl _, fun _ _ _ => rfl⟩, rfl⟩
      rw [CNT.out, PUT.out]
      exact ⟨H.out.blk, H.out.map.of_block rfl⟩
end Go.Proofs.Ytnlfdhoabbbheaa

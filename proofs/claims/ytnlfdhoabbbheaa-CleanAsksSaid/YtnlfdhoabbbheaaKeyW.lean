/- keymap's awake (cordwainlaw12) answers true. -/
import Derived.Test.YtnlfdhoabbbheaaKeyA
import Derived.Lib.SlBytesConst
namespace Go.Proofs.Ytnlfdhoabbbheaa
open Go.RowKit Go.Maps

/-- A slice of one byte, new. -/
theorem byte1_at (w : World) (x : Nat) (t : TypeId) (fr : Nat × Nat) : At (w.alloc (.cells #[.int .u8 (x : Int)] t fr)) (some ⟨w.heap.size, 0, none⟩) [x].length (byteAt [x]) :=
  (At.new w #[.int .u8 (x : Int)] t (n := 1) rfl).congr fun j hj => by
    obtain rfl : j = 0 := by simp at hj; omega
    rfl
theorem key.of_drew {w w' : World} {p b : Nat} {most : Int} {N : Nat} {g : ByteArray → Option Int} (h : KM w p b most N g) (hw : ∃ q, w' = w.drewN q) : KM w' p b most N g := by
  obtain ⟨q, rfl⟩ := hw
  exact ⟨h.blk, h.map.drew q⟩

theorem key.offer1 (p b : Nat) (most : Int) (N : Nat) (g : ByteArray → Option Int) (x T c : Nat) (fr : Nat × Nat) (n : Int) (w : World) (h : KM w p b most N g) (hn : -9223372036854775808 ≤ n ∧ n ≤ 9223372036854775807) (hN : N < maxLen) :
    Calls Try.prog 35 #[.pointer (some ⟨p, 0, none⟩), .slice (some ⟨w.heap.size, 0, none⟩) 1 c, .int .i64 n] (w.alloc (.cells #[.int .u8 (x : Int)] T fr)) fun e w' =>
      e = .returned (.bool (key.can N most g (strOf [x]))) ∧ KM w' p b most (key.cnt N most g (strOf [x])) (key.put N most g (strOf [x]) n) ∧ ∀ B, B ≤ w.heap.size → B ≤ b → Below B w w' := by
  have h' : KM (w.alloc (.cells #[.int .u8 (x : Int)] T fr)) p b most N g := h.keep ((Below.refl _ w).alloc (Nat.le_refl _) _)
  refine (key.offer_any p b most N g (some ⟨w.heap.size, 0, none⟩) c [x] n _ h' (by simp [maxLen]) (byte1_at w x T fr) hn hN).mono ?_
  rintro e w' ⟨rfl, hk, hch, hsz⟩
  refine ⟨rfl, hk, fun B h1 h2 => ?_⟩
  have e1 : Below B w (w.alloc (.cells #[.int .u8 (x : Int)] T fr)) := (Below.refl _ w).alloc h1 _
  exact e1.trans (hch.below (by simp; omega) fun k hk => by omega)
theorem key.last1 (p b : Nat) (most : Int) (N : Nat) (g : ByteArray → Option Int) (x T c : Nat) (fr : Nat × Nat) (w : World) (h : KM w p b most N g) :
    Calls Try.prog 33 #[.pointer (some ⟨p, 0, none⟩), .slice (some ⟨w.heap.size, 0, none⟩) 1 c] (w.alloc (.cells #[.int .u8 (x : Int)] T fr)) fun e w' =>
      e = .returned (.tuple #[.int .i64 ((g (strOf [x])).getD 0), .bool (g (strOf [x])).isSome]) ∧ KM w' p b most N g ∧ ∀ B, B ≤ w.heap.size → B ≤ b → Below B w w' := by
  have h' : KM (w.alloc (.cells #[.int .u8 (x : Int)] T fr)) p b most N g := h.keep ((Below.refl _ w).alloc (Nat.le_refl _) _)
  refine (key.last_any p b most N g (some ⟨w.heap.size, 0, none⟩) c [x] _ h' (by simp [maxLen]) (byte1_at w x T fr)).mono ?_
  rintro e w' ⟨rfl, q, rfl⟩
  exact ⟨rfl, key.of_drew h' ⟨q, rfl⟩, fun B h1 h2 => bdrew ((Below.refl _ w).alloc h1 _) q⟩

theorem key.ab : strOf [98] ≠ strOf [97] := fun h => by
  have := strOf_inj (by simp) (by simp) h
  simp at this

end Go.Proofs.Ytnlfdhoabbbheaa

/- keymap's awake (cordwainlaw12) answers true. -/
import Derived.Test.YtbbekgliaedigaaKeyA
import Derived.Lib.SlBytesConst
namespace Go.Proofs.Ytbbekgliaedigaa
open Go.RowKit Go.Maps

/-- A slice of one byte, new. -/
theorem byte1_at (w : World) (x : Nat) (t : TypeId) (fr : Nat × Nat) : At (w.alloc (.cells #[.int .u8 (x : Int)] t fr)) (some ⟨w.heap.size, 0, none⟩) [x].length (byteAt [x]) :=
  (At.new w #[.int .u8 (x : Int)] t (n := 1) rfl).congr fun j hj => by
    obtain rfl : j = 0 := by simp at hj; omega
    rfl
theorem key.of_drew {w w' : World} {p b : Nat} {most : Int} {N : Nat} {g : ByteArray → Option Int} (h : KM w p b most N g) (hw : ∃ q, w' = w.drewN q) : KM w' p b most N g := by
  obtain ⟨q, rfl⟩ := hw
  exact ⟨h.blk, h.map.drew q⟩

theorem key.offer1 (p b : Nat) (most : Int) (N : Nat) (g : ByteArray → Option Int) (x T c : Nat) (fr : Nat × Nat) (n : Int) (w : World) (h : KM w p b most N g) (hn : -9223372036854775808 ≤ n ∧ n ≤ 9223372036854775807) (hN : N < maxLen) :
    Calls Try.prog 18 #[.pointer (some ⟨p, 0, none⟩), .slice (some ⟨w.heap.size, 0, none⟩) 1 c, .int .i64 n] (w.alloc (.cells #[.int .u8 (x : Int)] T fr)) fun e w' =>
      e = .returned (.bool (key.can N most g (strOf [x]))) ∧ KM w' p b most (key.cnt N most g (strOf [x])) (key.put N most g (strOf [x]) n) ∧ ∀ B, B ≤ w.heap.size → B ≤ b → Below B w w' := by
  have h' : KM (w.alloc (.cells #[.int .u8 (x : Int)] T fr)) p b most N g := h.keep ((Below.refl _ w).alloc (Nat.le_refl _) _)
  refine (key.offer_any p b most N g (some ⟨w.heap.size, 0, none⟩) c [x] n _ h' (by simp [maxLen]) (byte1_at w x T fr) hn hN).mono ?_
  rintro e w' ⟨rfl, hk, hch, hsz⟩
  refine ⟨rfl, hk, fun B h1 h2 => ?_⟩
  have e1 : Below B w (w.alloc (.cells #[.int .u8 (x : Int)] T fr)) := (Below.refl _ w).alloc h1 _
  exact e1.trans (hch.below (by simp; omega) fun k hk => by omega)
theorem key.last1 (p b : Nat) (most : Int) (N : Nat) (g : ByteArray → Option Int) (x T c : Nat) (fr : Nat × Nat) (w : World) (h : KM w p b most N g) :
    Calls Try.prog 21 #[.pointer (some ⟨p, 0, none⟩), .slice (some ⟨w.heap.size, 0, none⟩) 1 c] (w.alloc (.cells #[.int .u8 (x : Int)] T fr)) fun e w' =>
      e = .returned (.tuple #[.int .i64 ((g (strOf [x])).getD 0), .bool (g (strOf [x])).isSome]) ∧ KM w' p b most N g ∧ ∀ B, B ≤ w.heap.size → B ≤ b → Below B w w' := by
  have h' : KM (w.alloc (.cells #[.int .u8 (x : Int)] T fr)) p b most N g := h.keep ((Below.refl _ w).alloc (Nat.le_refl _) _)
  refine (key.last_any p b most N g (some ⟨w.heap.size, 0, none⟩) c [x] _ h' (by simp [maxLen]) (byte1_at w x T fr)).mono ?_
  rintro e w' ⟨rfl, q, rfl⟩
  exact ⟨rfl, key.of_drew h' ⟨q, rfl⟩, fun B h1 h2 => bdrew ((Below.refl _ w).alloc h1 _) q⟩

theorem key.ab : strOf [98] ≠ strOf [97] := fun h => by
  have := strOf_inj (by simp) (by simp) h
  simp at this

set_option maxRecDepth 20000 in
set_option maxHeartbeats 1000000 in
theorem key.awake_any (w : World) : Calls Try.prog 16 #[] w fun e w' => e = .returned (.bool true) ∧ Below w.heap.size w w' := by
  have g1 : key.put 0 1 (fun _ => none) (strOf [97]) 5 = upd (fun _ => none) (strOf [97]) 5 := by simp [key.put]
  have g2 : upd (fun _ => none) (strOf [97]) 5 (strOf [98]) = none := by unfold upd; rw [if_neg key.ab]
  have g3 : upd (fun _ => none) (strOf [97]) 5 (strOf [97]) = some 5 := by unfold upd; rw [if_pos rfl]
  have g4 : key.put 1 1 (upd (fun _ => none) (strOf [97]) 5) (strOf [98]) 6 = upd (fun _ => none) (strOf [97]) 5 := by unfold key.put; rw [g2]; rfl
  have g5 : key.put 1 1 (upd (fun _ => none) (strOf [97]) 5) (strOf [97]) 3 = upd (fun _ => none) (strOf [97]) 5 := by unfold key.put; rw [g3]; rfl
  have n1 : key.cnt 0 1 (fun _ => none) (strOf [97]) = 1 := rfl
  have n2 : key.cnt 1 1 (upd (fun _ => none) (strOf [97]) 5) (strOf [98]) = 1 := by unfold key.cnt; rw [g2]; rfl
  have n3 : key.cnt 1 1 (upd (fun _ => none) (strOf [97]) 5) (strOf [97]) = 1 := by unfold key.cnt; rw [g3]; rfl
  have k1 : key.can 0 1 (fun _ => none) (strOf [97]) = true := rfl
  have k2 : key.can 1 1 (upd (fun _ => none) (strOf [97]) 5) (strOf [98]) = false := by unfold key.can; rw [g2]; rfl
  have k3 : key.can 1 1 (upd (fun _ => none) (strOf [97]) 5) (strOf [97]) = true := by unfold key.can; rw [g3]; rfl
  have G := Lib.hid (And.intro g1 (And.intro g3 (And.intro g4 g5))); clear g1 g2 g3 g4 g5
  have NN := Lib.hid (And.intro n1 (And.intro n2 n3)); clear n1 n2 n3
  have KK := Lib.hid (And.intro k1 (And.intro k2 k3)); clear k1 k2 k3
  have kc := fun (w : World) (C : Array Value) (n c : Nat) => Lib.run_convert_bytes_const (P := Try.prog) w 23 5 C n c Try.underlying23 Try.underlying5
  go_enter Try.func16, Try.ntmps16
  go_wp2_with fail
  refine (key.new_any 1 w (by omega)).mono ?_
  rintro e w1 ⟨⟨p, b, rfl, hk1, hp1, hb1⟩, hbe1⟩
  have HK1 := Lib.hid hk1; clear hk1
  have HB1 := Lib.hid hbe1; clear hbe1
  go_wp2_with fail
  refine (key.new_bad 0 w1 (by omega)).mono ?_
  rintro e w' ⟨rfl, rfl⟩
  go_wp2_with fail
  refine (key.offer1 p b 1 0 (fun _ => none) 97 _ _ _ 5 w' HK1.out (by omega) (by decide)).mono ?_
  rintro e w2 ⟨rfl, hk2, hbe2⟩
  rw [KK.out.1]
  rw [NN.out.1, G.out.1] at hk2
  have HK2 := Lib.hid hk2; clear hk2
  have HB2 := Lib.hid (HB1.out.trans (hbe2 _ HB1.out.size hb1)); clear hbe2 HB1 HK1
  go_wp2_with fail
  refine (key.offer1 p b 1 1 _ 98 _ _ _ 6 w2 HK2.out (by omega) (by decide)).mono ?_
  rintro e w3 ⟨rfl, hk3, hbe3⟩
  rw [KK.out.2.1]
  rw [NN.out.2.1, G.out.2.2.1] at hk3
  have HK3 := Lib.hid hk3; clear hk3
  have HB3 := Lib.hid (HB2.out.trans (hbe3 _ HB2.out.size hb1)); clear hbe3 HB2 HK2
  go_wp2_with fail
  refine (key.offer1 p b 1 1 _ 97 _ _ _ 3 w3 HK3.out (by omega) (by decide)).mono ?_
  rintro e w4 ⟨rfl, hk4, hbe4⟩
  rw [KK.out.2.2]
  rw [NN.out.2.2, G.out.2.2.2] at hk4
  have HK4 := Lib.hid hk4; clear hk4
  have HB4 := Lib.hid (HB3.out.trans (hbe4 _ HB3.out.size hb1)); clear hbe4 HB3 HK3
  go_wp2_with fail
  refine (key.last1 p b 1 1 _ 97 _ _ _ w4 HK4.out).mono ?_
  rintro e w5 ⟨rfl, hk5, hbe5⟩
  rw [G.out.2.1]
  have HK5 := Lib.hid hk5; clear hk5
  have HB5 := Lib.hid (HB4.out.trans (hbe5 _ HB4.out.size hb1)); clear hbe5 HB4 HK4
  go_wp2_with fail
  refine (key.len_any p b 1 1 _ w5 HK5.out).mono ?_
  rintro e w' ⟨rfl, rfl⟩
  go_wp2_with fail
  go_ret
  exact ⟨rfl, HB5.out⟩
end Go.Proofs.Ytbbekgliaedigaa

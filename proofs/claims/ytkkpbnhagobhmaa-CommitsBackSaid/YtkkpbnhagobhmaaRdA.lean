/- Contracts of wire.Reader: Err, Left, fail, take. -/
import Derived.Test.YtkkpbnhagobhmaaBlk
import Derived.Test.YtkkpbnhagobhmaaByte
namespace Go.Proofs.Ytkkpbnhagobhmaa
open Go.RowKit

/-- A Reader at block r: the bytes that are left, its error. -/
structure Rd (w : World) (r : Nat) (A : Option Addr) (c : Nat) (L : List Nat) (e : Int) : Prop where
  blk : Blk w r 105 #[.slice A L.length c, .int .i64 e]
  lie : At w A L.length (byteAt L)
  len : L.length ≤ c
  cap : c ≤ maxLen
  byte : ∀ x ∈ L, x < 256
def RdIs (w : World) (r : Nat) (L : List Nat) (e : Int) : Prop := ∃ A c, Rd w r A c L e
def rdT (r : Nat) : Nat → Prop := fun k => k = r
/-- What a reading call leaves. -/
def RdPost (w : World) (r : Nat) (v : Value) (L : List Nat) (e : Int) (en : Ending) (w' : World) : Prop := en = .returned v ∧ RdIs w' r L e ∧ Chg w w' (rdT r)

theorem Rd.apart {w : World} {r : Nat} {A : Option Addr} {c : Nat} {L : List Nat} {e : Int} (h : Rd w r A c L e) {X : Option Addr} {m : Nat} {M : List Nat} (hx : At w X m (byteAt M)) (hm : 0 < m) : ∀ b off, X = some ⟨b, off, none⟩ → ¬ rdT r b := fun b off hb hh =>
  hx.not_blk hm h.blk (fun j u hj => by
    rcases j with _ | _ | j
    · simp at hj; subst hj; unfold byteAt; simp
    · simp at hj; subst hj; unfold byteAt; simp
    · simp at hj) b off hb hh
theorem At.byte_le {w : World} {A : Option Addr} {n : Nat} {L : List Nat} (h : At w A n (byteAt L)) (k : Nat) (hk : k ≤ n) : At w A k (byteAt (L.take k)) := fun hn => by
  obtain ⟨b, off, hA, hb, hc⟩ := h (by omega)
  exact ⟨b, off, hA, hb, fun j hj => by rw [hc j (by omega)]; unfold byteAt; simp [List.getD, hj]⟩
theorem At.byte_from {w : World} {A : Option Addr} {n : Nat} {L : List Nat} (h : At w A n (byteAt L)) (k : Nat) : At w (A.map fun a => a.add k) (n - k) (byteAt (L.drop k)) := fun hn => by
  obtain ⟨b, off, rfl, hb, hc⟩ := h (by omega)
  exact ⟨b, off + k, by simp [add_none], hb, fun j hj => by rw [Nat.add_assoc, hc _ (by omega)]; unfold byteAt; simp [List.getD, List.getElem?_drop]⟩
theorem At.none0 {w : World} {A : Option Addr} {n : Nat} {V : Nat → Value} (h : n = 0) : At w A n V := fun hn => by omega

theorem Rd.stored {w : World} {r : Nat} {A : Option Addr} {c : Nat} {L : List Nat} {e : Int} (h : Rd w r A c L e) (k : Nat) (A2 : Option Addr) (c2 : Nat) (hA : At w A2 (L.length - k) (byteAt (L.drop k))) (h1 : L.length - k ≤ c2) (h2 : c2 ≤ maxLen) :
    Rd (w.setCell ⟨r, 0, none⟩ (.slice A2 (L.length - k) c2)) r A2 c2 (L.drop k) e := by
  have hl : (L.drop k).length = L.length - k := List.length_drop
  refine ⟨by rw [hl]; exact h.blk.set 0 _, ?_, by omega, h2, fun x hx => h.byte x (List.mem_of_mem_drop hx)⟩
  rw [hl]
  exact (Chg.setCell w r 0 _).at' hA fun hm b off hb hh => h.apart hA hm b off hb hh

theorem wire.err_any (r : Nat) (A : Option Addr) (c : Nat) (L : List Nat) (e : Int) (w : World) (h : Rd w r A c L e) :
    Calls Try.prog 69 #[.pointer (some ⟨r, 0, none⟩)] w fun en w' => en = .returned (.int .i64 e) ∧ w = w' := by
  have hc1 := h.blk.cell 1 (v := .int .i64 e) rfl
  clear h
  go_enter Try.func69, Try.ntmps69
  go_wp2
  go_ret
  exact ⟨rfl, rfl⟩
theorem wire.err_nil (w : World) :
    Calls Try.prog 69 #[.pointer none] w fun en w' => en = .returned (.int .i64 2) ∧ w = w' := by
  go_enter Try.func69, Try.ntmps69
  go_wp2
  go_ret
  exact ⟨rfl, rfl⟩
theorem wire.left_any (r : Nat) (A : Option Addr) (c : Nat) (L : List Nat) (e : Int) (w : World) (h : Rd w r A c L e) :
    Calls Try.prog 73 #[.pointer (some ⟨r, 0, none⟩)] w fun en w' => en = .returned (.int .i64 (L.length : Nat)) ∧ w = w' := by
  have hc0 := h.blk.cell 0 (v := .slice A L.length c) rfl
  clear h
  go_enter Try.func73, Try.ntmps73
  go_wp2
  go_ret
  exact ⟨rfl, rfl⟩
theorem wire.left_nil (w : World) :
    Calls Try.prog 73 #[.pointer none] w fun en w' => en = .returned (.int .i64 0) ∧ w = w' := by
  go_enter Try.func73, Try.ntmps73
  go_wp2
  go_ret
  exact ⟨rfl, rfl⟩

theorem wire.fail_any (r : Nat) (A : Option Addr) (c : Nat) (L : List Nat) (e x : Int) (w : World) (h : Rd w r A c L e) :
    Calls Try.prog 70 #[.pointer (some ⟨r, 0, none⟩), .int .i64 x] w (RdPost w r (.int .i64 0) [] x) := by
  have hc0 := h.blk.cell 0 (v := .slice A L.length c) rfl
  have hc1 := h.blk.cell 1 (v := .int .i64 e) rfl
  have hf0 := h.blk.frozen 0
  have hf1 := h.blk.frozen 1
  have hb1 := h.blk.set 1 (.int .i64 x)
  have hq0 := hb1.cell 0 (v := .slice A L.length c) rfl
  have hg0 := hb1.frozen 0
  have H := Lib.hid hb1; clear hb1 h
  go_enter Try.func70, Try.ntmps70
  go_wp2
  go_ret
  refine ⟨rfl, ⟨none, 0, ⟨H.out.set 0 (.slice none 0 0), At.none0 rfl, Nat.le_refl _, Nat.zero_le _, fun x hx => by cases hx⟩⟩, ?_⟩
  exact (Chg.setCell w r 1 _).trans (Chg.setCell _ r 0 _) fun _ _ hk => hk

/-- The slice lies in the same block. -/
def Near (A A2 : Option Addr) : Prop := ∀ a2, A2 = some a2 → ∃ a, A = some a ∧ a.block = a2.block
theorem Near.refl (A : Option Addr) : Near A A := fun a h => ⟨a, h, rfl⟩
theorem Near.trans {A B C : Option Addr} (h : Near A B) (g : Near B C) : Near A C := fun a2 h2 => by
  obtain ⟨b, hb, e⟩ := g a2 h2
  obtain ⟨a, ha, e2⟩ := h b hb
  exact ⟨a, ha, e2.trans e⟩
theorem Near.add (A : Option Addr) (n : Nat) : Near A (A.map fun a => a.add n) := fun a2 h => by
  cases A with
  | none => cases h
  | some a =>
    simp only [Option.map_some, Option.some.injEq] at h
    refine ⟨a, rfl, ?_⟩
    rw [← h]
    unfold Addr.add
    split <;> rfl
def RdNear (w : World) (r : Nat) (A : Option Addr) (L : List Nat) (e : Int) : Prop := ∃ A2 c2, Rd w r A2 c2 L e ∧ Near A A2
theorem RdNear.is {w : World} {r : Nat} {A : Option Addr} {L : List Nat} {e : Int} (h : RdNear w r A L e) : RdIs w r L e := by
  obtain ⟨A2, c2, h, _⟩ := h
  exact ⟨A2, c2, h⟩

set_option maxHeartbeats 800000 in
theorem wire.take_near (r : Nat) (A : Option Addr) (c : Nat) (L : List Nat) (e : Int) (n : Nat) (w : World) (h : Rd w r A c L e) (hn : n ≤ L.length) :
    Calls Try.prog 71 #[.pointer (some ⟨r, 0, none⟩), .int .i64 n] w fun en w' => en = .returned (.slice A n c) ∧ At w' A n (byteAt (L.take n)) ∧ RdNear w' r A (L.drop n) e ∧ Chg w w' (rdT r) := by
  have hc0 := h.blk.cell 0 (v := .slice A L.length c) rfl
  have hf0 := h.blk.frozen 0
  have hlen := h.len
  have hcap := h.cap
  unfold maxLen at hcap
  have hfin : ∀ A2 c2, At w A2 (L.length - n) (byteAt (L.drop n)) → L.length - n ≤ c2 → c2 ≤ maxLen → Near A A2 →
      At (w.setCell ⟨r, 0, none⟩ (.slice A2 (L.length - n) c2)) A n (byteAt (L.take n)) ∧ RdNear (w.setCell ⟨r, 0, none⟩ (.slice A2 (L.length - n) c2)) r A (L.drop n) e ∧ Chg w (w.setCell ⟨r, 0, none⟩ (.slice A2 (L.length - n) c2)) (rdT r) := fun A2 c2 ha g1 g2 g3 =>
    ⟨(Chg.setCell w r 0 _).at' (h.lie.byte_le n hn) fun hm b off hb hh => h.apart (h.lie.byte_le n hn) hm b off hb hh, ⟨A2, c2, h.stored n A2 c2 ha g1 g2, g3⟩, Chg.setCell w r 0 _⟩
  have HF := Lib.hid hfin; clear hfin
  have H := Lib.hid h; clear h
  by_cases hcn : c = n
  · subst hcn
    go_enter Try.func71, Try.ntmps71
    go_wp2
    go_ret
    have h0 : L.length - c = 0 := by omega
    have h5 := HF.out A 0 (At.none0 h0) (by omega) (Nat.zero_le _) (Near.refl _)
    rw [h0] at h5
    exact ⟨rfl, h5⟩
  · by_cases hc0' : c = 0
    · exfalso; omega
    · go_enter Try.func71, Try.ntmps71
      go_wp2
      go_ret
      exact ⟨rfl, HF.out _ _ (H.out.lie.byte_from n) (by omega) (by unfold maxLen; omega) (Near.add A n)⟩
theorem wire.take_any (r : Nat) (A : Option Addr) (c : Nat) (L : List Nat) (e : Int) (n : Nat) (w : World) (h : Rd w r A c L e) (hn : n ≤ L.length) :
    Calls Try.prog 71 #[.pointer (some ⟨r, 0, none⟩), .int .i64 n] w fun en w' => en = .returned (.slice A n c) ∧ At w' A n (byteAt (L.take n)) ∧ RdIs w' r (L.drop n) e ∧ Chg w w' (rdT r) :=
  (wire.take_near r A c L e n w h hn).mono fun _ _ ⟨h1, h2, h3, h4⟩ => ⟨h1, h2, h3.is, h4⟩
end Go.Proofs.Ytkkpbnhagobhmaa

/- Contracts of wire.Reader: Err, Left, fail, take, Num. -/
import Derived.Test.YtfblfgnnnbcplaaBlk
import Derived.Test.YtfblfgnnnbcplaaNumC
import Derived.Test.YtfblfgnnnbcplaaNumP
import Derived.Test.YtfblfgnnnbcplaaClone
namespace Go.Proofs.Ytfblfgnnnbcplaa
open Go.RowKit

/-- A Reader at block r: the bytes that are left, its error. -/
structure Rd (w : World) (r : Nat) (A : Option Addr) (c : Nat) (L : List Nat) (e : Int) : Prop where
  blk : Blk w r 76 #[.slice A L.length c, .int .i64 e]
  lie : At w A L.length (byteAt L)
  len : L.length ≤ c
  cap : c ≤ maxLen
  byte : ∀ x ∈ L, x < 256
def RdIs (w : World) (r : Nat) (L : List Nat) (e : Int) : Prop := ∃ A c, Rd w r A c L e
def rdT (r : Nat) : Nat → Prop := fun k => k = r
/-- What a reading call leaves. -/
def RdPost (w : World) (r : Nat) (v : Value) (L : List Nat) (e : Int) (en : Ending) (w' : World) : Prop := en = .returned v ∧ RdIs w' r L e ∧ Chg w w' (rdT r)

theorem Rd.apart {w : World} {r : Nat} {A : Option Addr} {c : Nat} {L : List Nat} {e : Int} (h : Rd w r A c L e) {X : Option Addr} {m : Nat} {M : List Nat} (hx : At w X m (byteAt M)) (hm : 0 < m) : ∀ b off, X = some ⟨b, off, none⟩ → ¬ rdT r b := fun b off hb hh =>
  hx.not_blk hm h.blk (fun j u hj => by
    rcases j with _ | _ | j
    · simp at hj; subst hj; unfold byteAt; simp
    · simp at hj; subst hj; unfold byteAt; simp
    · simp at hj) b off hb hh
theorem At.byte_le {w : World} {A : Option Addr} {n : Nat} {L : List Nat} (h : At w A n (byteAt L)) (k : Nat) (hk : k ≤ n) : At w A k (byteAt (L.take k)) := fun hn => by
  obtain ⟨b, off, hA, hb, hc⟩ := h (by omega)
  exact ⟨b, off, hA, hb, fun j hj => by rw [hc j (by omega)]; unfold byteAt; simp [List.getD, hj]⟩
theorem At.byte_from {w : World} {A : Option Addr} {n : Nat} {L : List Nat} (h : At w A n (byteAt L)) (k : Nat) : At w (A.map fun a => a.add k) (n - k) (byteAt (L.drop k)) := fun hn => by
  obtain ⟨b, off, rfl, hb, hc⟩ := h (by omega)
  exact ⟨b, off + k, by simp [add_none], hb, fun j hj => by rw [Nat.add_assoc, hc _ (by omega)]; unfold byteAt; simp [List.getD, List.getElem?_drop]⟩
theorem At.none0 {w : World} {A : Option Addr} {n : Nat} {V : Nat → Value} (h : n = 0) : At w A n V := fun hn => by omega

theorem Rd.stored {w : World} {r : Nat} {A : Option Addr} {c : Nat} {L : List Nat} {e : Int} (h : Rd w r A c L e) (k : Nat) (A2 : Option Addr) (c2 : Nat) (hA : At w A2 (L.length - k) (byteAt (L.drop k))) (h1 : L.length - k ≤ c2) (h2 : c2 ≤ maxLen) :
    Rd (w.setCell ⟨r, 0, none⟩ (.slice A2 (L.length - k) c2)) r A2 c2 (L.drop k) e := by
  have hl : (L.drop k).length = L.length - k := List.length_drop
  refine ⟨by rw [hl]; exact h.blk.set 0 _, ?_, by omega, h2, fun x hx => h.byte x (List.mem_of_mem_drop hx)⟩
  rw [hl]
  exact (Chg.setCell w r 0 _).at' hA fun hm b off hb hh => h.apart hA hm b off hb hh

theorem wire.err_any (r : Nat) (A : Option Addr) (c : Nat) (L : List Nat) (e : Int) (w : World) (h : Rd w r A c L e) :
    Calls Try.prog 37 #[.pointer (some ⟨r, 0, none⟩)] w fun en w' => en = .returned (.int .i64 e) ∧ w = w' := by
  have hc1 := h.blk.cell 1 (v := .int .i64 e) rfl
  clear h
  go_enter Try.func37, Try.ntmps37
  go_wp2
  go_ret
  exact ⟨rfl, rfl⟩
theorem wire.err_nil (w : World) :
    Calls Try.prog 37 #[.pointer none] w fun en w' => en = .returned (.int .i64 2) ∧ w = w' := by
  go_enter Try.func37, Try.ntmps37
  go_wp2
  go_ret
  exact ⟨rfl, rfl⟩
theorem wire.left_any (r : Nat) (A : Option Addr) (c : Nat) (L : List Nat) (e : Int) (w : World) (h : Rd w r A c L e) :
    Calls Try.prog 36 #[.pointer (some ⟨r, 0, none⟩)] w fun en w' => en = .returned (.int .i64 (L.length : Nat)) ∧ w = w' := by
  have hc0 := h.blk.cell 0 (v := .slice A L.length c) rfl
  clear h
  go_enter Try.func36, Try.ntmps36
  go_wp2
  go_ret
  exact ⟨rfl, rfl⟩
theorem wire.left_nil (w : World) :
    Calls Try.prog 36 #[.pointer none] w fun en w' => en = .returned (.int .i64 0) ∧ w = w' := by
  go_enter Try.func36, Try.ntmps36
  go_wp2
  go_ret
  exact ⟨rfl, rfl⟩

theorem wire.fail_any (r : Nat) (A : Option Addr) (c : Nat) (L : List Nat) (e x : Int) (w : World) (h : Rd w r A c L e) :
    Calls Try.prog 50 #[.pointer (some ⟨r, 0, none⟩), .int .i64 x] w (RdPost w r (.int .i64 0) [] x) := by
  have hc0 := h.blk.cell 0 (v := .slice A L.length c) rfl
  have hc1 := h.blk.cell 1 (v := .int .i64 e) rfl
  have hf0 := h.blk.frozen 0
  have hf1 := h.blk.frozen 1
  have hb1 := h.blk.set 1 (.int .i64 x)
  have hq0 := hb1.cell 0 (v := .slice A L.length c) rfl
  have hg0 := hb1.frozen 0
  have H := Lib.hid hb1; clear hb1 h
  go_enter Try.func50, Try.ntmps50
  go_wp2
  go_ret
  refine ⟨rfl, ⟨none, 0, ⟨H.out.set 0 (.slice none 0 0), At.none0 rfl, Nat.le_refl _, Nat.zero_le _, fun x hx => by cases hx⟩⟩, ?_⟩
  exact (Chg.setCell w r 1 _).trans (Chg.setCell _ r 0 _) fun _ _ hk => hk

set_option maxHeartbeats 800000 in
theorem wire.take_any (r : Nat) (A : Option Addr) (c : Nat) (L : List Nat) (e : Int) (n : Nat) (w : World) (h : Rd w r A c L e) (hn : n ≤ L.length) :
    Calls Try.prog 51 #[.pointer (some ⟨r, 0, none⟩), .int .i64 n] w fun en w' => en = .returned (.slice A n c) ∧ At w' A n (byteAt (L.take n)) ∧ RdIs w' r (L.drop n) e ∧ Chg w w' (rdT r) := by
  have hc0 := h.blk.cell 0 (v := .slice A L.length c) rfl
  have hf0 := h.blk.frozen 0
  have hlen := h.len
  have hcap := h.cap
  unfold maxLen at hcap
  have hfin : ∀ A2 c2, At w A2 (L.length - n) (byteAt (L.drop n)) → L.length - n ≤ c2 → c2 ≤ maxLen →
      At (w.setCell ⟨r, 0, none⟩ (.slice A2 (L.length - n) c2)) A n (byteAt (L.take n)) ∧ RdIs (w.setCell ⟨r, 0, none⟩ (.slice A2 (L.length - n) c2)) r (L.drop n) e ∧ Chg w (w.setCell ⟨r, 0, none⟩ (.slice A2 (L.length - n) c2)) (rdT r) := fun A2 c2 ha g1 g2 =>
    ⟨(Chg.setCell w r 0 _).at' (h.lie.byte_le n hn) fun hm b off hb hh => h.apart (h.lie.byte_le n hn) hm b off hb hh, ⟨A2, c2, h.stored n A2 c2 ha g1 g2⟩, Chg.setCell w r 0 _⟩
  have HF := Lib.hid hfin; clear hfin
  have H := Lib.hid h; clear h
  by_cases hcn : c = n
  · subst hcn
    go_enter Try.func51, Try.ntmps51
    go_wp2
    go_ret
    have h0 : L.length - c = 0 := by omega
    have h5 := HF.out A 0 (At.none0 h0) (by omega) (Nat.zero_le _)
    rw [h0] at h5
    exact ⟨rfl, h5⟩
  · by_cases hc0' : c = 0
    · exfalso; omega
    · go_enter Try.func51, Try.ntmps51
      go_wp2
      go_ret
      exact ⟨rfl, HF.out _ _ (H.out.lie.byte_from n) (by omega) (by unfold maxLen; omega)⟩

/-- What Num answers, what is left, the error. -/
def rd.num (L : List Nat) (e : Int) : Int × List Nat × Int :=
  if e ≠ 0 then (0, L, e) else match num.getL L with
    | none => (0, [], 2)
    | some (u, k) => (num.zag u, L.drop k, 0)
theorem rd.num_err {L : List Nat} {e : Int} (h : e ≠ 0) : rd.num L e = (0, L, e) := if_pos h
theorem num.getL_le {L : List Nat} {u k : Nat} (h : num.getL L = some (u, k)) : k ≤ L.length ∧ 1 ≤ k := by
  have : ∀ (bs : Nat → Nat) (n : Nat), ∀ q i x, num.gt bs n q i x = some (u, k) → k ≤ n ∧ 1 ≤ k := by
    intro bs n q
    induction q with
    | zero => intro i x h; simp [num.gt] at h
    | succ q ih =>
      intro i x h
      rw [num.gt] at h
      split at h
      · cases h
      split at h
      · cases h
      split at h
      · exact ih _ _ h
      split at h
      · cases h
      simp only [Option.some.injEq, Prod.mk.injEq] at h
      omega
  exact this _ _ _ _ _ h

set_option maxRecDepth 20000 in
set_option maxHeartbeats 800000 in
theorem wire.rnum_any (r : Nat) (A : Option Addr) (c : Nat) (L : List Nat) (e : Int) (w : World) (h : Rd w r A c L e) :
    Calls Try.prog 32 #[.pointer (some ⟨r, 0, none⟩)] w (RdPost w r (.int .i64 (rd.num L e).1) (rd.num L e).2.1 (rd.num L e).2.2) := by
  have hc0 := h.blk.cell 0 (v := .slice A L.length c) rfl
  have hlen := h.len
  have hcap := h.cap
  unfold maxLen at hcap
  have H := Lib.hid h; clear h
  by_cases he : e = 0
  · subst he
    cases hg : num.getL L with
    | none =>
      have hres : num.res (num.get (fun j => L.getD j 0) L.length) = .tuple #[.int .i64 0, .int .i64 0, .int .i64 2] := by
        rw [show num.get (fun j => L.getD j 0) L.length = num.getL L from rfl, hg]; rfl
      have hr : rd.num L 0 = (0, [], 2) := by unfold rd.num; rw [if_neg (by simp), hg]
      have HRES := Lib.hid hres; clear hres
      have HR := Lib.hid hr; clear hr hg
      go_enter Try.func32, Try.ntmps32
      go_wp2_with fail
      refine (wire.err_any r A c L 0 w H.out).mono ?_
      rintro en w' ⟨rfl, rfl⟩
      go_wp2_with fail
      refine (num.get_any A L.length c (fun j => L.getD j 0) w (by omega) H.out.lie (fun j hj => getD_all H.out.byte j hj)).mono ?_
      rintro en w' ⟨rfl, rfl⟩
      rw [HRES.out]
      go_wp2_with fail
      refine (wire.fail_any r A c L 0 2 w H.out).mono ?_
      rintro en w' ⟨rfl, hrd, hch⟩
      have HRD := Lib.hid hrd; clear hrd
      have HCH := Lib.hid hch; clear hch
      go_wp2
      go_ret
      rw [HR.out]
      exact ⟨rfl, HRD.out, HCH.out⟩
    | some p =>
      obtain ⟨u, k⟩ := p
      obtain ⟨hk, hk1⟩ := num.getL_le hg
      have hres : num.res (num.get (fun j => L.getD j 0) L.length) = .tuple #[.int .i64 (num.zag u), .int .i64 (k : Int), .int .i64 0] := by
        rw [show num.get (fun j => L.getD j 0) L.length = num.getL L from rfl, hg]; rfl
      have hr : rd.num L 0 = (num.zag u, L.drop k, 0) := by unfold rd.num; rw [if_neg (by simp), hg]
      have HRES := Lib.hid hres; clear hres
      have HR := Lib.hid hr; clear hr hg
      go_enter Try.func32, Try.ntmps32
      go_wp2_with fail
      refine (wire.err_any r A c L 0 w H.out).mono ?_
      rintro en w' ⟨rfl, rfl⟩
      go_wp2_with fail
      refine (num.get_any A L.length c (fun j => L.getD j 0) w (by omega) H.out.lie (fun j hj => getD_all H.out.byte j hj)).mono ?_
      rintro en w' ⟨rfl, rfl⟩
      rw [HRES.out]
      go_wp2_with fail
      refine (wire.take_any r A c L 0 k w H.out hk).mono ?_
      rintro en w' ⟨rfl, -, hrd, hch⟩
      have HRD := Lib.hid hrd; clear hrd
      have HCH := Lib.hid hch; clear hch
      go_wp2
      go_ret
      rw [HR.out]
      exact ⟨rfl, HRD.out, HCH.out⟩
  · have he' : (e == 0) = false := by simpa using he
    have hr := rd.num_err (L := L) he
    have HR := Lib.hid hr; clear hr
    clear he
    go_enter Try.func32, Try.ntmps32
    go_wp2_with fail
    refine (wire.err_any r A c L e w H.out).mono ?_
    rintro en w' ⟨rfl, rfl⟩
    go_wp2
    go_ret
    rw [HR.out]
    exact ⟨rfl, ⟨A, c, H.out⟩, Chg.refl _ _⟩
theorem wire.rnum_nil (w : World) :
    Calls Try.prog 32 #[.pointer none] w fun en w' => en = .returned (.int .i64 0) ∧ w = w' := by
  go_enter Try.func32, Try.ntmps32
  go_wp2_with fail
  refine (wire.err_nil w).mono ?_
  rintro en w' ⟨rfl, rfl⟩
  go_wp2
  go_ret
  exact ⟨rfl, rfl⟩
end Go.Proofs.Ytfblfgnnnbcplaa

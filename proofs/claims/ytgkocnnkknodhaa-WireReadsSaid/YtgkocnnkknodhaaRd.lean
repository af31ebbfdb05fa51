/- Contracts of wire.Reader: Num. -/
import Derived.Test.YtgkocnnkknodhaaRdA
import Derived.Test.YtgkocnnkknodhaaNumC
import Derived.Test.YtgkocnnkknodhaaNumP
namespace Go.Proofs.Ytgkocnnkknodhaa
open Go.RowKit

/-- What Num answers, what is left, the error. -/
def rd.num (L : List Nat) (e : Int) : Int × List Nat × Int :=
  if e ≠ 0 then (0, L, e) else match num.getL L with
    | none => (0, [], 2)
    | some (u, k) => (num.zag u, L.drop k, 0)
theorem rd.num_err {L : List Nat} {e : Int} (h : e ≠ 0) : rd.num L e = (0, L, e) := if_pos h
theorem num.getL_le {L : List Nat} {u k : Nat} (h : num.getL L = some (u, k)) : k ≤ L.length ∧ 1 ≤ k := by
  have : ∀ (bs : Nat → Nat) (n : Nat), ∀ q i x, num.gt bs n q i x = some (u, k) → k ≤ n ∧ 1 ≤ k := by
    intro bs n q
    induction q with
    | zero => intro i x h; simp [num.gt] at h
    | succ q ih =>
      intro i x h
      rw [num.gt] at h
      split at h
      · cases h
      split at h
      · cases h
      split at h
      · exact ih _ _ h
      split at h
      · cases h
      simp only [Option.some.injEq, Prod.mk.injEq] at h
      omega
  exact this _ _ _ _ _ h

set_option maxRecDepth 20000 in
set_option maxHeartbeats 800000 in
theorem wire.rnum_any (r : Nat) (A : Option Addr) (c : Nat) (L : List Nat) (e : Int) (w : World) (h : Rd w r A c L e) :
    Calls Try.prog 21 #[.pointer (some ⟨r, 0, none⟩)] w (RdPost w r (.int .i64 (rd.num L e).1) (rd.num L e).2.1 (rd.num L e).2.2) := by
  have hc0 := h.blk.cell 0 (v := .slice A L.length c) rfl
  have hlen := h.len
  have hcap := h.cap
  unfold maxLen at hcap
  have H := Lib.hid h; clear h
  by_cases he : e = 0
  · subst he
    cases hg : num.getL L with
    | none =>
      have hres : num.res (num.get (fun j => L.getD j 0) L.length) = .tuple #[.int .i64 0, .int .i64 0, .int .i64 2] := by
        rw [show num.get (fun j => L.getD j 0) L.length = num.getL L from rfl, hg]; rfl
      have hr : rd.num L 0 = (0, [], 2) := by unfold rd.num; rw [if_neg (by simp), hg]
      have HRES := Lib.hid hres; clear hres
      have HR := Lib.hid hr; clear hr hg
      go_enter Try.func21, Try.ntmps21
      go_wp2_with fail
      refine (wire.err_any r A c L 0 w H.out).mono ?_
      rintro en w' ⟨rfl, rfl⟩
      go_wp2_with fail
      refine (num.get_any A L.length c (fun j => L.getD j 0) w (by omega) H.out.lie (fun j hj => getD_all H.out.byte j hj)).mono ?_
      rintro en w' ⟨rfl, rfl⟩
      rw [HRES.out]
      go_wp2_with fail
      refine (wire.fail_any r A c L 0 2 w H.out).mono ?_
      rintro en w' ⟨rfl, hrd, hch⟩
      have HRD := Lib.hid hrd; clear hrd
      have HCH := Lib.hid hch; clear hch
      go_wp2
      go_ret
      rw [HR.out]
      exact ⟨rfl, HRD.out, HCH.out⟩
    | some p =>
      obtain ⟨u, k⟩ := p
      obtain ⟨hk, hk1⟩ := num.getL_le hg
      have hres : num.res (num.get (fun j => L.getD j 0) L.length) = .tuple #[.int .i64 (num.zag u), .int .i64 (k : Int), .int .i64 0] := by
        rw [show num.get (fun j => L.getD j 0) L.length = num.getL L from rfl, hg]; rfl
      have hr : rd.num L 0 = (num.zag u, L.drop k, 0) := by unfold rd.num; rw [if_neg (by simp), hg]
      have HRES := Lib.hid hres; clear hres
      have HR := Lib.hid hr; clear hr hg
      go_enter Try.func21, Try.ntmps21
      go_wp2_with fail
      refine (wire.err_any r A c L 0 w H.out).mono ?_
      rintro en w' ⟨rfl, rfl⟩
      go_wp2_with fail
      refine (num.get_any A L.length c (fun j => L.getD j 0) w (by omega) H.out.lie (fun j hj => getD_all H.out.byte j hj)).mono ?_
      rintro en w' ⟨rfl, rfl⟩
      rw [HRES.out]
      go_wp2_with fail
      refine (wire.take_any r A c L 0 k w H.out hk).mono ?_
      rintro en w' ⟨rfl, -, hrd, hch⟩
      have HRD := Lib.hid hrd; clear hrd
      have HCH := Lib.hid hch; clear hch
      go_wp2
      go_ret
      rw [HR.out]
      exact ⟨rfl, HRD.out, HCH.out⟩
  · have he' : (e == 0) = false := by simpa using he
    have hr := rd.num_err (L := L) he
    have HR := Lib.hid hr; clear hr
    clear he
    go_enter Try.func21, Try.ntmps21
    go_wp2_with fail
    refine (wire.err_any r A c L e w H.out).mono ?_
    rintro en w' ⟨rfl, rfl⟩
    go_wp2
    go_ret
    rw [HR.out]
    exact ⟨rfl, ⟨A, c, H.out⟩, Chg.refl _ _⟩
theorem wire.rnum_nil (w : World) :
    Calls Try.prog 21 #[.pointer none] w fun en w' => en = .returned (.int .i64 0) ∧ w = w' := by
  go_enter Try.func21, Try.ntmps21
  go_wp2_with fail
  refine (wire.err_nil w).mono ?_
  rintro en w' ⟨rfl, rfl⟩
  go_wp2
  go_ret
  exact ⟨rfl, rfl⟩
end Go.Proofs.Ytgkocnnkknodhaa

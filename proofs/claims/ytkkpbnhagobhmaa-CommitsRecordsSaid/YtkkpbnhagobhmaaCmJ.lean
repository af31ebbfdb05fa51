/- commits: what a record says; ended, number (chapter 18). -/
import Derived.BigQuiet
import Derived.Test.YtkkpbnhagobhmaaCmI
import Derived.Test.YtkkpbnhagobhmaaRdB
namespace Go.Proofs.Ytkkpbnhagobhmaa
open Go.RowKit Go.Maps
set_option maxRecDepth 100000
def cm.end_ (e : Int) (L : List Nat) : Bool := decide (e = 0) && L.isEmpty
theorem cm.ended_any (r : Nat) (L : List Nat) (e : Int) (w : World) (h : RdIs w r L e) : Calls Try.prog 57 #[.pointer (some ⟨r, 0, none⟩)] w fun en w' => en = .returned (.bool (cm.end_ e L)) ∧ w = w' := by
  obtain ⟨A, c, h⟩ := h
  have h1 := wire.err_any r A c L e w h
  have h2 := wire.left_any r A c L e w h
  have H := Lib.hid (And.intro h1 h2); clear h1 h2 h
  by_cases he : e = 0
  · subst he
    go_enter Try.func57, Try.ntmps57
    go_wp2_with fail
    refine H.out.1.mono ?_
    rintro en w2 ⟨rfl, h2⟩
    subst h2
    go_wp2_with fail
    refine H.out.2.mono ?_
    rintro en w2 ⟨rfl, h2⟩
    subst h2
    cases L with
    | nil =>
      go_wp2_with fail
      go_ret
      exact ⟨rfl, rfl⟩
    | cons x L =>
      have h0 : (((x :: L).length : Nat) == (0 : Int)) = false := by simp; omega
      obtain ⟨n, hn⟩ : ∃ n : Int, n = ((x :: L).length : Nat) := ⟨_, rfl⟩
      rw [← hn] at h0 ⊢
      clear hn
      go_wp2_with fail
      go_ret
      exact ⟨rfl, rfl⟩
  · have h0 : (e == 0) = false := by simpa using he
    have h3 : cm.end_ e L = false := by unfold cm.end_; rw [decide_eq_false he]; rfl
    rw [h3]
    clear h3
    go_enter Try.func57, Try.ntmps57
    go_wp2_with fail
    refine H.out.1.mono ?_
    rintro en w2 ⟨rfl, h2⟩
    subst h2
    go_wp2_with fail
    go_ret
    exact ⟨rfl, rfl⟩
/-- What a value says: a number. -/
def cm.numOk (V : List Nat) : Bool := cm.end_ (rd.num V 0).2.2 (rd.num V 0).2.1
theorem cm.number_any (u : Value) (V : List Nat) (w : World) (h : BytesV w u V) : Calls Try.prog 58 #[u] w fun en w' => en = .returned (.tuple #[.int .i64 (rd.num V 0).1, .bool (cm.numOk V)]) ∧ Below w.heap.size w w' := by
  obtain ⟨A, c, rfl, h1, h2, h3, h4⟩ := h
  have hb := wire.borrow_any A c V w h1 h2 h3 h4
  unfold cm.numOk
  have hn := fun r w1 (hr : RdIs w1 r V 0) => hr.elim fun A hr => hr.elim fun c hr => wire.rnum_any r A c V 0 w1 hr
  obtain ⟨⟨n, L1, e1⟩, hq⟩ : ∃ q, q = rd.num V 0 := ⟨_, rfl⟩
  rw [← hq] at hn ⊢
  simp only at hn ⊢
  clear hq
  obtain ⟨m, hm⟩ : ∃ m, m = V.length := ⟨_, rfl⟩
  rw [← hm] at hb ⊢
  have H := Lib.hid (And.intro hb hn); clear hb hn h1 h2 h3 h4 hm
  go_enter Try.func58, Try.ntmps58
  go_wp2_with fail
  refine H.out.1.mono ?_
  rintro en w1 ⟨r, rfl, hr1, hr, hb1⟩
  have H1 := Lib.hid (And.intro (H.out.2 r w1 hr1) (And.intro hr hb1)); clear hr1 hr hb1 H
  go_wp2_with fail
  refine H1.out.1.mono ?_
  rintro en w2 ⟨rfl, hr2, hc2⟩
  have hb2 : Below w.heap.size w w2 := H1.out.2.2.trans (hc2.below H1.out.2.2.size fun k q => by have q : k = r := q; have := H1.out.2.1; omega)
  have H2 := Lib.hid (And.intro (cm.ended_any r L1 e1 w2 hr2) hb2); clear hr2 hb2 hc2 H1
  go_wp2_with fail
  refine H2.out.1.mono ?_
  rintro en w3 ⟨rfl, h3⟩
  subst h3
  go_wp2_with fail
  go_ret2
  exact ⟨rfl, H2.out.2⟩
end Go.Proofs.Ytkkpbnhagobhmaa

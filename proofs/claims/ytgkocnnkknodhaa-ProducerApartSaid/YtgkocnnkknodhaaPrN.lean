/- producer: Known at any table; what a nil table answers. -/
import Derived.Test.YtgkocnnkknodhaaMapI
import Derived.Test.YtgkocnnkknodhaaPrE
import Derived.Test.YtgkocnnkknodhaaWr
import Derived.Test.YtgkocnnkknodhaaWrD
namespace Go.Proofs.Ytgkocnnkknodhaa
open Go.RowKit

theorem RowsAt.some_iff {w : World} {gv : Int → Option Value} {g : Int → Option PRow} {Bs : Nat → Prop} (h : RowsAt w gv g Bs) {x : Int} (hx : intOk x) : (gv x).isSome = (g x).isSome := by
  have := h.none' x hx
  cases h1 : gv x <;> cases h2 : g x <;> simp_all

set_option maxHeartbeats 1000000 in
theorem prod.known_any (p : Option Addr) (N : Nat) (g : Int → Option PRow) (Bs : Nat → Prop) (w : World) (hT : PTabN w p N g Bs) (hN : N ≤ 1000000) :
    Calls Try.prog 34 #[.pointer p] w fun e w' => (∃ (v : Value) (ks : List Int), e = .returned v ∧ ks.Pairwise (fun x y : Int => x < y) ∧ (∀ x, x ∈ ks ↔ intOk x ∧ (g x).isSome = true) ∧ ks.length = N ∧ w'.ownsRow w.heap.size 3 1 v N (ks.map (.int .i64))) ∧ Below w.heap.size w w' := by
  obtain ⟨mb, ⟨gv, hm, hr⟩, hmb⟩ := hT.map
  have HALL := Lib.hid (prod.all_any p mb w hmb)
  have HS := Lib.hid (keysI_sorted mb N gv w hm hN)
  have HR := Lib.hid hr
  clear hm hr hmb hT
  go_enter Try.func34, Try.ntmps34
  go_wp2_with fail
  refine HALL.out.mono ?_
  rintro e w' ⟨rfl, rfl⟩
  go_wp2_with fail
  refine (maps_keys_row mb w).mono ?_
  rintro e w' ⟨rfl, rfl⟩
  go_wp2_with fail
  refine HS.out.mono ?_
  rintro e w2 ⟨v, ks, rfl, hk, hl, hrow, hb⟩
  have HK := Lib.hid (And.intro hk (And.intro hl hrow)); clear hk hl hrow
  have HB := Lib.hid (((Below.refl _ w).alloc (Nat.le_refl _) _).trans (hb.mono (by simp))); clear hb
  go_wp2
  go_ret
  obtain ⟨h1, h2, h3⟩ := HK.out
  refine ⟨⟨v, ks, rfl, h1.rising, fun x => ?_, h2, ?_⟩, HB.out⟩
  · rw [h1.mem x]
    constructor
    · rintro ⟨a, b⟩; exact ⟨a, by rw [← HR.out.some_iff a]; exact b⟩
    · rintro ⟨a, b⟩; exact ⟨a, by rw [HR.out.some_iff a]; exact b⟩
  · refine ⟨h3.1, ?_⟩
    rcases h3.2 with h | ⟨gg, cap, cur, q1, q2, q3⟩
    · exact .inl h
    · exact .inr ⟨gg, cap, cur, q1, by simp at q2; omega, q3⟩

theorem prod.copy_nil (w : World) : Calls Try.prog 35 #[.pointer none] w fun e w' => e = .returned (.pointer none) ∧ w' = w := by
  go_enter Try.func35, Try.ntmps35
  go_wp2
  go_ret
  exact ⟨rfl, rfl⟩

set_option maxHeartbeats 1000000 in
theorem prod.same_nil (w : World) : Calls Try.prog 36 #[.pointer none, .pointer none] w fun e w' => e = .returned (.bool true) ∧ Below w.heap.size w w' := by
  have hall := fun wx => prod.all_any none none wx (.inl ⟨rfl, rfl⟩)
  have hlen := fun (wx : World) ty => Maps.len_nil (w := wx) Try.underlying134 ty
  have hrg := fun wx => run_range_nilMap (P := Try.prog) wx 134 3 139 Try.underlying134
  have hnx : ∀ ty, (Instr.next (.pointer (some ⟨w.heap.size, 0, none⟩)) false ty).run Try.prog (w.alloc (.mapIter none 0 #[] 0)) = _ := fun ty => run_next_nilMap _ ty 0 0 #[]
  have HALL := Lib.hid hall; clear hall
  go_enter Try.func36, Try.ntmps36
  go_wp2_with fail
  refine (HALL.out w).mono ?_
  rintro e w' ⟨rfl, rfl⟩
  go_wp2_with fail
  refine (HALL.out w).mono ?_
  rintro e w' ⟨rfl, rfl⟩
  go_wp2_with fail
  refine (HALL.out w).mono ?_
  rintro e w' ⟨rfl, rfl⟩
  go_wp2_with fail
  go_loopw [5] (fun _ wr => wr = w.alloc (.mapIter none 0 #[] 0)) (fun _ _ => 0)
  case atStart => rfl
  case round =>
    subst hrel
    go_wp2
    go_ret
    refine ⟨rfl, ?_⟩
    go_grown

theorem num.put_zero : num.put 0 = [0] := by decide
set_option maxHeartbeats 1000000 in
/-- A nil table is written as none. -/
theorem prod.encode_nil (w : World) : Calls Try.prog 37 #[.pointer none] w fun e w' => (∃ A c, e = .returned (.slice A 1 c) ∧ At w' A 1 (byteAt [0])) ∧ Below w.heap.size w w' := by
  have hall := fun wx => prod.all_any none none wx (.inl ⟨rfl, rfl⟩)
  have HALL := Lib.hid hall; clear hall
  have hlen := fun (wx : World) ty => Maps.len_nil (w := wx) Try.underlying134 ty
  go_enter Try.func37, Try.ntmps37
  go_wp2_with fail
  obtain ⟨w1, hw1⟩ : ∃ w1, w1 = w.alloc (.cells #[.slice none 0 0, .bool false] 119) := ⟨_, rfl⟩
  rw [← hw1]
  have hwr : Wr w1 w.heap.size w.heap.size (.slice none 0 0) [] false := by rw [hw1]; exact Wr.new w
  have hb1 : Below w.heap.size w w1 := by rw [hw1]; exact (Below.refl _ w).alloc (Nat.le_refl _) _
  clear hw1
  have HWR := Lib.hid hwr; clear hwr
  have HB1 := Lib.hid hb1; clear hb1
  refine (HALL.out w1).mono ?_
  rintro e w' ⟨rfl, rfl⟩
  go_wp2_with fail
  refine (wire.num_any _ _ _ _ _ 0 w1 HWR.out (by simp) (by decide) (by decide)).mono ?_
  rintro e w2 ⟨rfl, v2, hwr2, hch2, -⟩
  have HWR2 := Lib.hid hwr2; clear hwr2
  have hb2 : Below w.heap.size w w2 := HB1.out.trans (hch2.below HB1.out.size fun k hk => by
    rcases hk with h | h
    · exact Nat.le_of_eq h.symm
    · cases h)
  have HB2 := Lib.hid hb2; clear hb2 hch2
  go_wp2_with fail
  refine (prod.known_any none 0 (fun _ => none) (fun _ => False) w2 ⟨rfl, fun _ => rfl⟩ (by omega)).mono ?_
  rintro e w3 ⟨⟨v3, ks, rfl, -, -, hl, hrow⟩, hb3⟩
  obtain ⟨A3, c3, hv3, -, -⟩ := own_at hrow
  subst hv3
  have HWR3 := Lib.hid (HWR2.out.keep hb3)
  have HB3 := Lib.hid (HB2.out.trans (hb3.mono HB2.out.size)); clear hb3 hrow hl
  go_wp2_with fail
  go_loopw [18] (fun i wr => i = .int .i64 0 ∧ wr = w3) (fun _ _ => 0)
  case atStart => exact ⟨rfl, rfl⟩
  case round =>
    obtain ⟨rfl, rfl⟩ := hrel
    go_wp2_with fail
    refine (wire.done_any _ _ _ _ wr HWR3.out (by simp [num.put_zero])).mono ?_
    rintro e w5 ⟨⟨u, rfl, hown⟩, hb5⟩
    have HB5 := Lib.hid (HB3.out.trans (hb5.mono HB3.out.size)); clear hb5
    obtain ⟨A5, c5, rfl, -, -, hat5⟩ := own_bytes hown
    have HAT5 := Lib.hid hat5; clear hat5 hown
    go_wp2
    go_ret
    exact ⟨⟨A5, c5, rfl, HAT5.out⟩, HB5.out⟩
end Go.Proofs.Ytgkocnnkknodhaa

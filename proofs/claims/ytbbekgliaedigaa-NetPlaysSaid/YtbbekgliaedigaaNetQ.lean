/- The document's own net (cordwainref4): At, IDs. -/
import Derived.Test.YtbbekgliaedigaaNetN
namespace Go.Proofs.Ytbbekgliaedigaa
open Go.RowKit
set_option maxRecDepth 20000

/-- What waits. -/
structure RItm where
  id : Int
  A : Option Addr
  k : Nat
  c : Nat
  bs : List Nat
def RItm.cells (x : RItm) : List Value := [.int .i64 x.id, .slice x.A x.k x.c]
def ref.row (l : List RItm) : List Value := (l.map RItm.cells).flatten
def ref.says (l : List RItm) : List (Int × List Nat) := l.map fun x => (x.id, x.bs)
theorem ref.row_len (l : List RItm) : (ref.row l).length = l.length * 2 := flat_len RItm.cells 2 (fun _ => rfl) l
theorem ref.row_append (a b : List RItm) : ref.row (a ++ b) = ref.row a ++ ref.row b := by simp [ref.row]
theorem ref.row_cons (x : RItm) (l : List RItm) : ref.row (x :: l) = .int .i64 x.id :: .slice x.A x.k x.c :: ref.row l := rfl
theorem ref.row_at {l : List RItm} {i : Nat} {x : RItm} (h : l[i]? = some x) : (ref.row l).getD (i * 2) undef = .int .i64 x.id ∧ (ref.row l).getD (i * 2 + 1) undef = .slice x.A x.k x.c :=
  ⟨flat_get RItm.cells 2 (fun _ => rfl) l i 0 x h (by omega), flat_get RItm.cells 2 (fun _ => rfl) l i 1 x h (by omega)⟩
/-- Its bytes, where they lay at first. -/
def RefB (w0 : World) (x : RItm) : Prop := x.bs.length = x.k ∧ x.k ≤ 1000000 ∧ At w0 x.A x.k (byteAt x.bs)
/-- The document's net at q. -/
def RefAt (w0 w : World) (q last : Nat) (l : List RItm) : Prop :=
  ∃ v, Blk w q 111 #[.int .i64 last, v] ∧ w.ownsRow 0 154 2 v l.length (ref.row l) ∧ (∀ x ∈ l, RefB w0 x) ∧ l.length ≤ last
theorem RefAt.chg {w0 w w' : World} {q last : Nat} {l : List RItm} {P : Nat → Prop} (h : RefAt w0 w q last l) (hc : Chg w w' P) (hp : ∀ k, P k → ∀ cs T fr, w.heap[k]? = some (.cells cs T fr) → T ≠ 111 ∧ T ≠ 154) : RefAt w0 w' q last l := by
  obtain ⟨v, h1, h2, h3⟩ := h
  refine ⟨v, hc.blk h1 fun hh => (hp _ hh _ _ _ h1).1 rfl, hc.own h2 fun k hk hh => ?_, h3⟩
  rcases h2.2 with ⟨rfl, _⟩ | ⟨g, cap, cur, rfl, _, hg, _⟩
  · cases hk
  · obtain rfl : g = k := by simpa [Value.ownBlock] using hk
    exact (hp _ hh _ _ _ hg).2 rfl
theorem RefAt.below {w0 w w' : World} {q last : Nat} {l : List RItm} (h : RefAt w0 w q last l) (hb : Below w.heap.size w w') : RefAt w0 w' q last l := h.chg (chg_of (P := fun _ => False) hb) fun _ h => h.elim
theorem RefAt.nchg {w0 w w' : World} {q last B : Nat} {l : List RItm} (h : RefAt w0 w q last l) (hc : NChg B w w') : RefAt w0 w' q last l := h.chg hc.chg fun k hk cs T fr hT => by
  rcases hk.2 with ⟨c, f, h⟩ | ⟨c, f, h⟩ | ⟨c, f, h⟩
  · rw [hT] at h; simp at h; rw [h.2.1]; exact ⟨by decide, by decide⟩
  · rw [hT] at h; simp at h; rw [h.2.1]; exact ⟨by decide, by decide⟩
  · rw [hT] at h; simp at h
theorem RefAt.lt {w0 w : World} {q last : Nat} {l : List RItm} (h : RefAt w0 w q last l) : q < w.heap.size := by
  obtain ⟨v, h1, -⟩ := h
  exact h1.lt
theorem RefAt.free {w0 w : World} {q last C : Nat} {l : List RItm} (h : RefAt w0 w q last l) : NetFree C w q := by
  obtain ⟨v, h1, -⟩ := h
  exact ⟨_, _, _, h1, by decide, by decide, fun e => absurd e (by decide)⟩
theorem ref.row_cells {w : World} {base g n c i : Nat} {l : List RItm} {x : RItm} (h : w.ownsRow base 154 2 (.slice (some ⟨g, 0, none⟩) n c) n (ref.row l)) (hx : l[i]? = some x) :
    w.cell? ⟨g, i * 2, none⟩ = some (.int .i64 x.id) ∧ w.cell? ⟨g, i * 2 + 1, none⟩ = some (.slice x.A x.k x.c) ∧ g < w.heap.size := by
  have hi : i < l.length := (List.getElem?_eq_some_iff.1 hx).1
  have hlen := ref.row_len l
  obtain ⟨r0, r1⟩ := ref.row_at hx
  have hc : ∀ j, j < l.length * 2 → w.cell? ⟨g, j, none⟩ = some ((ref.row l).getD j undef) := fun j hj => by
    have := h.cells (g := g) rfl j _ (by rw [List.getElem?_eq_getElem (by omega)])
    rw [add_none, Nat.zero_add] at this
    rw [this, List.getD, List.getElem?_eq_getElem (by omega)]
    rfl
  exact ⟨by rw [hc _ (by omega), r0], by rw [hc _ (by omega), r1], (h.lt g rfl).2⟩

/-- The place of a number. -/
def ref.place (l : List RItm) (k : Int) : Int := match l.findIdx? (fun x => decide (x.id = k)) with | some i => (i : Int) | none => -1

set_option maxHeartbeats 1000000 in
theorem ref.at_any (w0 : World) (q last : Nat) (l : List RItm) (k : Int) (w : World) (h : RefAt w0 w q last l) (hlast : last ≤ 1000000000) :
    Calls Try.prog 91 #[.pointer (some ⟨q, 0, none⟩), .int .i64 k] w fun e w' => e = .returned (.int .i64 (ref.place l k)) ∧ w' = w := by
  obtain ⟨v, h1, h2, -, hll⟩ := h
  obtain ⟨A, c, rfl, -⟩ := own_at h2
  obtain ⟨n, hn⟩ : ∃ n, n = l.length := ⟨_, rfl⟩
  have c1 : w.cell? ⟨q, 1, none⟩ = some (.slice A l.length c) := h1.cell 1 rfl
  rw [← hn] at c1 hll h2
  have HN := Lib.hid hn.symm; clear hn h1
  have HR := Lib.hid h2; clear h2
  have hpost : ∀ x : Int, x = ref.place l k → Ending.returned (.int .i64 x) = Ending.returned (.int .i64 (ref.place l k)) := fun x h => by rw [h]
  have HPOST := Lib.hid hpost; clear hpost
  go_enter Try.func91, Try.ntmps91
  go_wp2_with fail
  go_loopw [5] (fun i wr => ∃ j : Nat, j ≤ n ∧ i = .int .i64 (j : Int) ∧ (∀ i x, l[i]? = some x → i < j → x.id ≠ k) ∧ wr = w) (fun i _ => n - (intOf i).toNat)
  case atStart => exact ⟨0, by omega, rfl, fun _ _ _ h => by omega, rfl⟩
  case round =>
    obtain ⟨j, hj, rfl, hno, rfl⟩ := hrel
    have HNO := Lib.hid hno; clear hno
    by_cases hlt : j < n
    · obtain ⟨x, hx⟩ : ∃ x, l[j]? = some x := ⟨_, List.getElem?_eq_getElem (by have := HN.out; omega)⟩
      obtain ⟨g1, c1x, hA, -, -, -, -, -⟩ := own_row_pos HR.out (by omega)
      obtain ⟨rfl, rfl⟩ : A = some ⟨g1, 0, none⟩ ∧ c = c1x := by simpa using hA
      clear hA
      obtain ⟨d0, -, hgl⟩ := ref.row_cells HR.out hx
      have HX := Lib.hid hx; clear hx
      obtain ⟨id, A, kk, cc, bs⟩ := x
      dsimp only at d0
      by_cases hid : id = k
      · have hf : (j : Int) = ref.place l k := by
          unfold ref.place
          have hfi : l.findIdx? (fun x => decide (x.id = k)) = some j := by
            rw [List.findIdx?_eq_some_iff_getElem]
            refine ⟨(List.getElem?_eq_some_iff.1 HX.out).1, by rw [(List.getElem?_eq_some_iff.1 HX.out).2]; simpa using hid, fun i hi => ?_⟩
            have hil : i < l.length := by have := (List.getElem?_eq_some_iff.1 HX.out).1; omega
            have := HNO.out i l[i] (List.getElem?_eq_getElem hil) hi
            simpa using this
          rw [hfi]
        have hd : (id == k) = true := by simpa using hid
        have HF := Lib.hid hf; clear hf hid
        go_wp2
        go_ret
        exact ⟨HPOST.out _ HF.out, rfl⟩
      · have hd : (id == k) = false := by simpa using hid
        have HID := Lib.hid hid; clear hid
        go_wp2
        go_roundw
        case rel =>
          refine ⟨j + 1, by omega, by go_num, fun i x hx hi => ?_, trivial⟩
          rcases Nat.lt_or_ge i j with h' | h'
          · exact HNO.out i x hx h'
          · obtain rfl : i = j := by omega
            rw [HX.out] at hx
            cases hx
            exact HID.out
        case measure => simp [intOf]; omega
    · have hf : (-1 : Int) = ref.place l k := by
        unfold ref.place
        have hfi : l.findIdx? (fun x => decide (x.id = k)) = none := by
          rw [List.findIdx?_eq_none_iff]
          intro x hx
          obtain ⟨i, hi⟩ := List.getElem?_of_mem hx
          have := HNO.out i x hi (by have := (List.getElem?_eq_some_iff.1 hi).1; have := HN.out; omega)
          simpa using this
        rw [hfi]
      have HF := Lib.hid hf; clear hf
      go_wp2
      go_ret
      exact ⟨HPOST.out _ HF.out, rfl⟩

set_option maxHeartbeats 1000000 in
theorem ref.ids_any (w0 : World) (q last : Nat) (l : List RItm) (w : World) (h : RefAt w0 w q last l) (hlast : last ≤ 1000000) :
    Calls Try.prog 92 #[.pointer (some ⟨q, 0, none⟩)] w fun e w' => ∃ v, e = .returned v ∧ w'.ownsRow w.heap.size 3 1 v l.length (ids (l.map RItm.id)) ∧ Below w.heap.size w w' := by
  obtain ⟨v, h1, h2, -, hll⟩ := h
  obtain ⟨A, c, rfl, -⟩ := own_at h2
  obtain ⟨n, hn⟩ : ∃ n, n = l.length := ⟨_, rfl⟩
  rw [← hn] at hll h2 h1 ⊢
  have HN := Lib.hid hn.symm; clear hn
  have HR := Lib.hid h2; clear h2
  have HB := Lib.hid h1; clear h1
  have c1 : w.cell? ⟨q, 1, none⟩ = some (.slice A n c) := HB.out.cell 1 rfl
  obtain ⟨i0, hi, hz0, hz1, hz2⟩ := info_parts infoInt'
  have HI0 := Lib.hid (And.intro hi (And.intro hz0 (And.intro hz1 hz2))); clear hi hz0 hz1 hz2
  go_enter Try.func92, Try.ntmps92
  go_wp2_with fail
  clear c1
  go_loopw [3, 4] (fun s3 s4 wr => ∃ j : Nat, j ≤ n ∧ s4 = .int .i64 (j : Int) ∧ wr.ownsRow w.heap.size 3 1 s3 j (ids ((l.take j).map RItm.id)) ∧ Below w.heap.size w wr) (fun _ s4 _ => n - (intOf s4).toNat)
  case atStart => exact ⟨0, by omega, rfl, World.ownsRow_nil _ _ _ _, Below.refl _ _⟩
  case round =>
    obtain ⟨j, hj, rfl, hrow, hbw⟩ := hrel
    obtain ⟨A3, c3, rfl, -⟩ := own_at hrow
    have c1 : wr.cell? ⟨q, 1, none⟩ = some (.slice A n c) := ((chg_of (P := fun _ => False) hbw).blk HB.out fun h => h).cell 1 rfl
    have hrr := own_below HR.out hbw
    have HROW := Lib.hid hrow; clear hrow
    have HBW := Lib.hid hbw; clear hbw
    by_cases hlt : j < n
    · obtain ⟨x, hx⟩ : ∃ x, l[j]? = some x := ⟨_, List.getElem?_eq_getElem (by have := HN.out; omega)⟩
      obtain ⟨g1, c1x, hA, -, -, -, -, -⟩ := own_row_pos hrr (by omega)
      obtain ⟨rfl, rfl⟩ : A = some ⟨g1, 0, none⟩ ∧ c = c1x := by simpa using hA
      obtain ⟨d0, -, hgl⟩ := ref.row_cells hrr hx
      clear hA hrr
      have HX := Lib.hid hx; clear hx
      obtain ⟨id, A, kk, cc, bs⟩ := x
      dsimp only at d0
      go_wp2_with (at_builtin; refine wpList_app2 _ rfl (.tmp 14) (.tmp 23) 97 rfl w.heap.size 3 i0 _ 1 8 Try.underlying97 HI0.out.1 HI0.out.2.1 HI0.out.2.2.1 HI0.out.2.2.2 rfl (by decide) _ j (ids ((l.take j).map RItm.id)) rfl (HROW.out.alloc _) (some ⟨wr.heap.size, 0, none⟩) 1 1 (fun _ => .int .i64 id) rfl (At.one wr _ _) (fun _ _ => rfl) (by unfold maxLen; omega) (by omega) (by have := HBW.out.size; simp; omega) ?_; intro v4 w4 hown4 hg4 hl4; have HO4 := Lib.hid (show w4.ownsRow w.heap.size 3 1 v4 (j + 1) (ids ((l.take (j + 1)).map RItm.id)) from by rw [List.take_add_one, HX.out]; unfold ids at hown4 ⊢; rw [List.map_append, List.map_append]; exact hown4); have HB4 := Lib.hid (((HBW.out.alloc HBW.out.size _)).grown hg4 (by have := HBW.out.size; simp; omega) (fun g hg => (HROW.out.lt g hg).1)); clear hown4 hg4 hl4 c1 d0)
      go_wp2
      go_roundw
      case rel => exact ⟨j + 1, by omega, by go_num, HO4.out, HB4.out⟩
      case measure => simp [intOf]; omega
    · obtain rfl : n = j := by omega
      have hfin : wr.ownsRow w.heap.size 3 1 (.slice A3 n c3) n (ids (l.map RItm.id)) := by
        have := HROW.out
        rw [← HN.out, List.take_length, HN.out] at this
        exact this
      have HF := Lib.hid hfin; clear hfin hrr
      go_wp2
      go_ret
      exact ⟨_, rfl, HF.out, HBW.out⟩
end Go.Proofs.Ytbbekgliaedigaa

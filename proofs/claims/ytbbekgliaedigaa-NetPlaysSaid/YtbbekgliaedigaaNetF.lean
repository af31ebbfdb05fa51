/- net: contracts of Send, Deliver, Drop, Double in plain words. -/
import Derived.Test.YtbbekgliaedigaaNetB
import Derived.Test.YtbbekgliaedigaaNetE
namespace Go.Proofs.Ytbbekgliaedigaa
open Go.RowKit
set_option maxRecDepth 20000

/-- The net at p: its last number, and what waits. -/
def NetS (B C : Nat) (w : World) (p last : Nat) (S : List (Int × List Nat)) : Prop := ∃ l, NetAt B C w p last l ∧ net.says l = S
theorem NetS.chg {B C : Nat} {w w' : World} {p last : Nat} {S : List (Int × List Nat)} {P : Nat → Prop} (h : NetS B C w p last S) (hc : Chg w w' P) (hp : ∀ k, P k → NetFree C w k) : NetS B C w' p last S := by
  obtain ⟨l, h1, h2⟩ := h
  exact ⟨l, h1.chg hc hp, h2⟩
theorem NetS.below {B C : Nat} {w w' : World} {p last : Nat} {S : List (Int × List Nat)} (h : NetS B C w p last S) (hb : Below w.heap.size w w') : NetS B C w' p last S := h.chg (chg_of (P := fun _ => False) hb) fun _ h => h.elim
theorem NetS.lt {B C : Nat} {w : World} {p last : Nat} {S : List (Int × List Nat)} (h : NetS B C w p last S) : B ≤ p ∧ p < w.heap.size := by
  obtain ⟨l, ⟨rv, mb, N, g, hb, -, -, -, -, -, -, hB, -⟩, -⟩ := h
  exact ⟨hB, hb.lt⟩
theorem net.says_mem {l : List NItm} {k : Int} {L : List Nat} (h : (k, L) ∈ net.says l) : ∃ (i : Nat) (x : NItm), l[i]? = some x ∧ x.gone = false ∧ x.id = k ∧ x.bs = L := by
  obtain ⟨x, hx, he⟩ := List.mem_map.1 h
  obtain ⟨h1, h2⟩ := net.left_gone l x hx
  obtain ⟨i, hi⟩ := List.getElem?_of_mem h1
  have e := Prod.mk.inj he
  exact ⟨i, x, hi, h2, e.1, e.2⟩
theorem net.says_snoc (l : List NItm) (x : NItm) (h : x.gone = false) : net.says (l ++ [x]) = net.says l ++ [(x.id, x.bs)] := by
  unfold net.says net.left
  simp [h]
/-- Numbers that wait rise from 1 on, up to the last one given, each once. -/
theorem NetS.ids {B C : Nat} {w : World} {p last : Nat} {S : List (Int × List Nat)} (h : NetS B C w p last S) : (∀ y ∈ S, 1 ≤ y.1 ∧ y.1 ≤ last ∧ y.2.length ≤ 1000000) ∧ S.Pairwise (fun x y => x.1 ≠ y.1) ∧ S.length ≤ last := by
  obtain ⟨l, ⟨rv, mb, N, g, hb, -, -, -, hi, hbs, hl, -, -⟩, rfl⟩ := h
  refine ⟨fun y hy => ?_, ?_, ?_⟩
  · obtain ⟨i, x, h1, h2, h3, h4⟩ := net.says_mem (k := y.1) (L := y.2) hy
    have := hi.at' i x h1 h2
    rw [← h3, ← h4]
    exact ⟨this.2.1, this.2.2, (hbs x (List.mem_of_getElem? h1) h2).2⟩
  · unfold net.says
    rw [List.pairwise_map]
    exact hi.apart
  · unfold net.says net.left
    rw [List.length_map]
    exact Nat.le_trans (List.length_filter_le _ _) hl
theorem NetS.uniq {B C : Nat} {w : World} {p last : Nat} {S : List (Int × List Nat)} (h : NetS B C w p last S) {k : Int} {L M : List Nat} (h1 : (k, L) ∈ S) (h2 : (k, M) ∈ S) : L = M := by
  have hp := h.ids.2.1
  obtain ⟨i, hi⟩ := List.getElem?_of_mem h1
  obtain ⟨j, hj⟩ := List.getElem?_of_mem h2
  obtain ⟨hi1, hi2⟩ := List.getElem?_eq_some_iff.1 hi
  obtain ⟨hj1, hj2⟩ := List.getElem?_eq_some_iff.1 hj
  rcases Nat.lt_trichotomy i j with hh | hh | hh
  · have := List.pairwise_iff_getElem.1 hp i j hi1 hj1 hh
    rw [hi2, hj2] at this
    exact absurd rfl this
  · subst hh
    rw [hi] at hj
    simpa using hj
  · have := List.pairwise_iff_getElem.1 hp j i hj1 hi1 hh
    rw [hi2, hj2] at this
    exact absurd rfl this

theorem net.newS (B C : Nat) (w : World) (hB : B ≤ w.heap.size) :
    Calls Try.prog 54 #[] w fun e w' => ∃ p, e = .returned (.pointer (some ⟨p, 0, none⟩)) ∧ NetS B C w' p 0 [] ∧ Below w.heap.size w w' := by
  refine (net.new_any B C w hB).mono ?_
  rintro e w' ⟨p, rfl, h1, h2⟩
  exact ⟨p, rfl, ⟨[], h1, rfl⟩, h2⟩
theorem net.sendS (B C p last : Nat) (S : List (Int × List Nat)) (X : Option Addr) (m c : Nat) (L : List Nat) (w : World) (h : NetS B C w p last S) (hlast : last ≤ 100000000) (hCw : C ≤ w.heap.size) (hl : L.length = m) (hm : m ≤ 1000000) (hat : At w X m (byteAt L)) :
    Calls Try.prog 55 #[.pointer (some ⟨p, 0, none⟩), .slice X m c] w fun e w' => e = .returned (.int .i64 ((last : Int) + 1)) ∧ NetS B C w' p (last + 1) (S ++ [((last : Int) + 1, L)]) ∧ NChg B w w' := by
  obtain ⟨l, h1, rfl⟩ := h
  refine (net.send_any B C p last l X m c L w h1 hlast hCw hl hm hat).mono ?_
  rintro e w' ⟨rfl, ⟨A, k, c', h2⟩, h3⟩
  exact ⟨rfl, ⟨_, h2, net.says_snoc _ _ rfl⟩, h3⟩
theorem net.deliverS (B C p last : Nat) (S : List (Int × List Nat)) (k : Int) (L : List Nat) (w : World) (h : NetS B C w p last S) (hlast : last ≤ 100000000) (hk : (k, L) ∈ S) :
    Calls Try.prog 57 #[.pointer (some ⟨p, 0, none⟩), .int .i64 k] w fun e w' => ∃ v, e = .returned (.tuple #[v, .int .i64 0]) ∧ w'.ownsRow C 5 1 v L.length (u8s L) ∧
      NetS B C w' p last (S.filter fun y => decide (y.1 ≠ k)) ∧ NChg B w w' := by
  obtain ⟨l, h1, rfl⟩ := h
  obtain ⟨i, x, hx, hg, rfl, rfl⟩ := net.says_mem hk
  refine (net.deliver_some B C p last i l x w h1 hlast hx hg).mono ?_
  rintro e w' ⟨rfl, h2, h3⟩
  obtain ⟨rv, mb, N, g, -, -, -, -, -, hbs, -⟩ := h1
  exact ⟨_, rfl, h3.own (hbs x (List.mem_of_getElem? hx) hg).1 (by decide) (by decide), h2, h3⟩
theorem net.deliver_no (B C p last : Nat) (S : List (Int × List Nat)) (k : Int) (w : World) (h : NetS B C w p last S) (hk : intOk k) (hno : ∀ y ∈ S, y.1 ≠ k) :
    Calls Try.prog 57 #[.pointer (some ⟨p, 0, none⟩), .int .i64 k] w fun e w' => e = .returned (.tuple #[.slice none 0 0, .int .i64 5]) ∧ w' = w := by
  obtain ⟨l, h1, rfl⟩ := h
  exact net.deliver_none B C p last l k w h1 hk fun x hx => hno (x.id, x.bs) (List.mem_map.2 ⟨x, hx, rfl⟩)

theorem net.drop_nil (k : Int) (w : World) :
    Calls Try.prog 59 #[.pointer none, .int .i64 k] w fun e w' => e = .returned (.int .i64 5) ∧ w' = w := by
  go_enter Try.func59, Try.ntmps59
  go_wp2_with fail
  refine (net.deliver_nil k w).mono ?_
  rintro e w1 ⟨rfl, rfl⟩
  go_wp2
  go_ret
  exact ⟨rfl, rfl⟩
theorem net.drop_no (B C p last : Nat) (S : List (Int × List Nat)) (k : Int) (w : World) (h : NetS B C w p last S) (hk : intOk k) (hno : ∀ y ∈ S, y.1 ≠ k) :
    Calls Try.prog 59 #[.pointer (some ⟨p, 0, none⟩), .int .i64 k] w fun e w' => e = .returned (.int .i64 5) ∧ w' = w := by
  have hd := net.deliver_no B C p last S k w h hk hno
  clear h hno
  go_enter Try.func59, Try.ntmps59
  go_wp2_with fail
  refine hd.mono ?_
  rintro e w1 ⟨rfl, rfl⟩
  clear hd
  go_wp2
  go_ret
  exact ⟨rfl, rfl⟩
theorem net.dropS (B C p last : Nat) (S : List (Int × List Nat)) (k : Int) (L : List Nat) (w : World) (h : NetS B C w p last S) (hlast : last ≤ 100000000) (hk : (k, L) ∈ S) :
    Calls Try.prog 59 #[.pointer (some ⟨p, 0, none⟩), .int .i64 k] w fun e w' => e = .returned (.int .i64 0) ∧ NetS B C w' p last (S.filter fun y => decide (y.1 ≠ k)) ∧ NChg B w w' := by
  have hd := net.deliverS B C p last S k L w h hlast hk
  clear h hk hlast
  go_enter Try.func59, Try.ntmps59
  go_wp2_with fail
  refine hd.mono ?_
  rintro e w1 ⟨v, rfl, -, h2, h3⟩
  clear hd
  have H2 := Lib.hid h2; clear h2
  have H3 := Lib.hid h3; clear h3
  go_wp2
  go_ret
  exact ⟨rfl, H2.out, H3.out⟩

theorem net.double_nil (k : Int) (w : World) :
    Calls Try.prog 56 #[.pointer none, .int .i64 k] w fun e w' => e = .returned (.tuple #[.int .i64 0, .int .i64 5]) ∧ w' = w := by
  go_enter Try.func56, Try.ntmps56
  go_wp2_with fail
  refine (net.place_nil k w).mono ?_
  rintro e w1 ⟨rfl, rfl⟩
  go_wp2
  go_ret2
  exact ⟨rfl, rfl⟩
theorem net.place_none {B C : Nat} {w : World} {p last : Nat} {l : List NItm} (h : NetAt B C w p last l) {k : Int} (hk : intOk k) (hno : ∀ y ∈ net.says l, y.1 ≠ k) :
    Calls Try.prog 88 #[.pointer (some ⟨p, 0, none⟩), .int .i64 k] w fun e w' => e = .returned (.tuple #[.int .i64 0, .bool false]) ∧ w' = w := by
  obtain ⟨rv, mb, N, g, hb, hr, hg, hN, hinv, hbs, hll, hBp, hBm⟩ := h
  have hgk : g k = none := by
    cases hv : g k with
    | none => rfl
    | some v =>
      obtain ⟨i, x, h1, h2, h3, -⟩ := hinv.back k v hk hv
      exact absurd h3 (hno (x.id, x.bs) (List.mem_map.2 ⟨x, List.mem_filter.2 ⟨List.mem_of_getElem? h1, by simp [h2]⟩, rfl⟩))
  have := net.place_any p mb N g _ _ _ k w hb hg hk
  rw [hgk] at this
  exact this
theorem net.place_has {B C : Nat} {w : World} {p last : Nat} {l : List NItm} (h : NetAt B C w p last l) (hlast : last ≤ 100000000) {i : Nat} {x : NItm} (hx : l[i]? = some x) (hg : x.gone = false) :
    Calls Try.prog 88 #[.pointer (some ⟨p, 0, none⟩), .int .i64 x.id] w fun e w' => e = .returned (.tuple #[.int .i64 i, .bool true]) ∧ w' = w := by
  obtain ⟨rv, mb, N, g, hb, hr, hgm, hN, hinv, hbs, hll, hBp, hBm⟩ := h
  have hok : intOk x.id := by
    have := (hinv.at' i x hx hg).2
    constructor <;> omega
  have := net.place_any p mb N g _ _ _ x.id w hb hgm hok
  rw [(hinv.at' i x hx hg).1] at this
  exact this
theorem net.double_no (B C p last : Nat) (S : List (Int × List Nat)) (k : Int) (w : World) (h : NetS B C w p last S) (hk : intOk k) (hno : ∀ y ∈ S, y.1 ≠ k) :
    Calls Try.prog 56 #[.pointer (some ⟨p, 0, none⟩), .int .i64 k] w fun e w' => e = .returned (.tuple #[.int .i64 0, .int .i64 5]) ∧ w' = w := by
  obtain ⟨l, h1, rfl⟩ := h
  have hpl := net.place_none h1 hk hno
  clear h1 hno
  go_enter Try.func56, Try.ntmps56
  go_wp2_with fail
  refine hpl.mono ?_
  rintro e w1 ⟨rfl, rfl⟩
  clear hpl
  go_wp2
  go_ret2
  exact ⟨rfl, rfl⟩
set_option maxHeartbeats 1000000 in
theorem net.doubleS (B C p last : Nat) (S : List (Int × List Nat)) (k : Int) (L : List Nat) (w : World) (h : NetS B C w p last S) (hlast : last ≤ 100000000) (hCw : C ≤ w.heap.size) (hk : (k, L) ∈ S) :
    Calls Try.prog 56 #[.pointer (some ⟨p, 0, none⟩), .int .i64 k] w fun e w' => e = .returned (.tuple #[.int .i64 ((last : Int) + 1), .int .i64 0]) ∧ NetS B C w' p (last + 1) (S ++ [((last : Int) + 1, L)]) ∧ NChg B w w' := by
  have h0 := h
  obtain ⟨l, h1, rfl⟩ := h
  obtain ⟨i, x, hx, hg, rfl, rfl⟩ := net.says_mem hk
  have hpl := net.place_has h1 hlast hx hg
  obtain ⟨rv, mb, N, g, hb, hr, hgm, hN, hinv, hbs, hll, hBp, hBm⟩ := h1
  have hil := (List.getElem?_eq_some_iff.1 hx).1
  obtain ⟨gr, cr, rfl, -, -, hBg, -, -⟩ := own_row_pos hr (by omega)
  have c1 : w.cell? ⟨p, 1, none⟩ = some (.slice (some ⟨gr, 0, none⟩) l.length cr) := hb.cell 1 rfl
  obtain ⟨d0, d1, d2, hgl⟩ := net.row_cells hr hx
  obtain ⟨hob, hlb⟩ := hbs x (List.mem_of_getElem? hx) hg
  obtain ⟨A', c', hv, -, hlen, hat⟩ := own_bytes hob
  obtain ⟨hA, hkk, hcc⟩ : x.A = A' ∧ x.k = x.bs.length ∧ x.c = c' := by unfold NItm.val at hv; simpa using hv
  subst hA hcc
  have hsend := net.sendS B C p last _ x.A x.bs.length x.c x.bs w h0 hlast hCw rfl hlb hat
  rw [← hkk] at hsend
  have HS := Lib.hid hsend; clear hsend
  obtain ⟨n, hn⟩ : ∃ n, n = l.length := ⟨_, rfl⟩
  rw [← hn] at c1 hil hll
  clear h0 hk hb hr hgm hinv hbs hob hlb hlen hat hv hx hn hkk d2 d0
  obtain ⟨id, A, k, cc, gn, bs⟩ := x
  dsimp only at *
  go_enter Try.func56, Try.ntmps56
  go_wp2_with fail
  refine hpl.mono ?_
  rintro e w0 ⟨rfl, rfl⟩
  clear hpl
  go_wp2_with fail
  refine HS.out.mono ?_
  rintro e w1 ⟨rfl, h2, h3⟩
  have H2 := Lib.hid h2; clear h2
  have H3 := Lib.hid h3; clear h3
  clear HS c1 d1
  go_wp2
  go_ret2
  exact ⟨rfl, H2.out, H3.out⟩
end Go.Proofs.Ytbbekgliaedigaa

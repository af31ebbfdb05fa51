/- net: what a net holds; contracts of New, place, Send. -/
import Derived.Test.YtbbekgliaedigaaEch
import Derived.Test.YtbbekgliaedigaaMapG
import Derived.Test.YtbbekgliaedigaaPlanC
import Derived.Test.YtbbekgliaedigaaConv
namespace Go.Proofs.Ytbbekgliaedigaa
open Go.RowKit

/-- What waits, or is gone. -/
structure NItm where
  id : Int
  A : Option Addr
  k : Nat
  c : Nat
  gone : Bool
  bs : List Nat
def NItm.val (x : NItm) : Value := .slice x.A x.k x.c
def NItm.cells (x : NItm) : List Value := [.int .i64 x.id, .slice x.A x.k x.c, .bool x.gone]
def net.row (l : List NItm) : List Value := (l.map NItm.cells).flatten
theorem net.row_len (l : List NItm) : (net.row l).length = l.length * 3 := flat_len NItm.cells 3 (fun _ => rfl) l
theorem net.row_snoc (l : List NItm) (x : NItm) : net.row (l ++ [x]) = net.row l ++ x.cells := by simp [net.row]
theorem net.row_at {l : List NItm} {i : Nat} {x : NItm} (h : l[i]? = some x) : (net.row l).getD (i * 3) undef = .int .i64 x.id ∧ (net.row l).getD (i * 3 + 1) undef = .slice x.A x.k x.c ∧ (net.row l).getD (i * 3 + 2) undef = .bool x.gone :=
  ⟨flat_get NItm.cells 3 (fun _ => rfl) l i 0 x h (by omega), flat_get NItm.cells 3 (fun _ => rfl) l i 1 x h (by omega), flat_get NItm.cells 3 (fun _ => rfl) l i 2 x h (by omega)⟩
def net.goneN (l : List NItm) : Nat := (l.filter fun x => x.gone).length
theorem net.goneN_le (l : List NItm) : net.goneN l ≤ l.length := List.length_filter_le _ _
theorem net.goneN_snoc (l : List NItm) (x : NItm) (h : x.gone = false) : net.goneN (l ++ [x]) = net.goneN l := by simp [net.goneN, h]

/-- A block of a net's own: its struct, its row, its map. -/
def NetTy (w : World) (k : Nat) : Prop := (∃ cs fr, w.heap[k]? = some (.cells cs 147 fr)) ∨ (∃ cs fr, w.heap[k]? = some (.cells cs 149 fr)) ∨ (∃ es clock, w.heap[k]? = some (.map es clock))
theorem NetTy.same {w w' : World} {k : Nat} (h : w'.heap[k]? = w.heap[k]?) : NetTy w' k ↔ NetTy w k := by unfold NetTy; rw [h]
/-- Only a net's own blocks were turned, and new ones laid. -/
structure NChg (B : Nat) (w w' : World) : Prop where
  chg : Chg w w' fun k => B ≤ k ∧ NetTy w k
  ty : ∀ k, k < w.heap.size → NetTy w' k → NetTy w k
theorem NChg.refl (B : Nat) (w : World) : NChg B w w := ⟨Chg.refl _ _, fun _ _ h => h⟩
theorem NChg.of {B : Nat} {w w' : World} {P : Nat → Prop} (h : Chg w w' P) (hp : ∀ k, P k → B ≤ k ∧ NetTy w k) : NChg B w w' := by
  refine ⟨h.mono fun k _ hk => hp k hk, fun k hk ht => ?_⟩
  by_cases hh : P k
  · exact (hp k hh).2
  · exact (NetTy.same (h.block k hk hh)).1 ht
theorem NChg.trans {B : Nat} {a b c : World} (h : NChg B a b) (g : NChg B b c) : NChg B a c :=
  ⟨h.chg.trans g.chg fun k hk hh => ⟨hh.1, h.ty k hk hh.2⟩, fun k hk ht => h.ty k hk (g.ty k (Nat.lt_of_lt_of_le hk h.chg.size) ht)⟩
theorem NChg.below {B : Nat} {w w' : World} (h : Below w.heap.size w w') : NChg B w w' := .of (chg_of (P := fun _ => False) h) fun _ h => h.elim
theorem NChg.keeps {B : Nat} {w w' : World} (h : NChg B w w') : Below (min B w.heap.size) w w' :=
  ⟨h.chg.os, h.chg.tape, h.chg.output, h.chg.size, fun k hk => h.chg.block k (by omega) fun hh => by have := hh.1; omega⟩
theorem NetTy.not_blk {w : World} {k p : Nat} {T : TypeId} {cs : Array Value} (h : NetTy w k) (hb : Blk w p T cs) (h1 : T ≠ 147) (h2 : T ≠ 149) : k ≠ p := by
  rintro rfl
  have hb : w.heap[k]? = _ := hb
  rcases h with ⟨c, f, h⟩ | ⟨c, f, h⟩ | ⟨c, f, h⟩
  · rw [hb] at h; simp at h; exact h1 h.2.1
  · rw [hb] at h; simp at h; exact h2 h.2.1
  · rw [hb] at h; simp at h
theorem NetTy.not_row {w : World} {k : Nat} {base s n : Nat} {e : TypeId} {v : Value} {xs : List Value} (h : NetTy w k) (hr : w.ownsRow base e s v n xs) (h1 : e ≠ 147) (h2 : e ≠ 149) : v.ownBlock ≠ some k := by
  intro hk
  rcases hr.2 with ⟨rfl, _⟩ | ⟨g, cap, cur, rfl, _, hg, _⟩
  · cases hk
  · obtain rfl : g = k := by simpa [Value.ownBlock] using hk
    rcases h with ⟨c, f, h⟩ | ⟨c, f, h⟩ | ⟨c, f, h⟩
    · rw [hg] at h; simp at h; exact h1 h.2.1
    · rw [hg] at h; simp at h; exact h2 h.2.1
    · rw [hg] at h; simp at h
theorem NChg.blk {B : Nat} {w w' : World} (h : NChg B w w') {p : Nat} {T : TypeId} {cs : Array Value} (hb : Blk w p T cs) (h1 : T ≠ 147) (h2 : T ≠ 149) : Blk w' p T cs :=
  h.chg.blk hb fun hh => hh.2.not_blk hb h1 h2 rfl
theorem NChg.own {B : Nat} {w w' : World} (h : NChg B w w') {base s n : Nat} {e : TypeId} {v : Value} {xs : List Value} (hr : w.ownsRow base e s v n xs) (h1 : e ≠ 147) (h2 : e ≠ 149) : w'.ownsRow base e s v n xs :=
  h.chg.own hr fun _ hk hh => hh.2.not_row hr h1 h2 hk
theorem NChg.at' {B : Nat} {w w' : World} (h : NChg B w w') {A : Option Addr} {n : Nat} {V : Nat → Value} (ha : At w A n V) (hb : w.heap.size ≤ B ∨ ∀ b off, A = some ⟨b, off, none⟩ → b < B) : At w' A n V :=
  h.chg.at' ha fun hn b off e hh => by
    obtain ⟨b', off', e', hl, _⟩ := ha hn
    rw [e] at e'
    obtain ⟨rfl, rfl⟩ : b = b' ∧ off = off' := by simpa using e'
    rcases hb with hb | hb
    · have := hh.1; omega
    · have := hb b off e; have := hh.1; omega

/-- The map says where each that waits stands. -/
structure NInv (last : Nat) (l : List NItm) (g : Int → Option Value) : Prop where
  at' : ∀ (i : Nat) (x : NItm), l[i]? = some x → x.gone = false → g x.id = some (.int .i64 i) ∧ 1 ≤ x.id ∧ x.id ≤ last
  back : ∀ (k : Int) (v : Value), intOk k → g k = some v → ∃ (i : Nat) (x : NItm), l[i]? = some x ∧ x.gone = false ∧ x.id = k ∧ v = .int .i64 i
/-- The bytes of what waits. -/
def NBytes (C : Nat) (w : World) (l : List NItm) : Prop := ∀ x ∈ l, x.gone = false → w.ownsRow C 5 1 x.val x.bs.length (u8s x.bs) ∧ x.bs.length ≤ 1000000
/-- The net at p: its last number, its line; B: below lies nothing of its own; C: below lie no bytes of it. -/
def NetAt (B C : Nat) (w : World) (p last : Nat) (l : List NItm) : Prop :=
  ∃ (rv : Value) (mb N : Nat) (g : Int → Option Value), Blk w p 147 #[.int .i64 last, rv, .int .i64 (net.goneN l), .map (some mb)] ∧ w.ownsRow B 149 3 rv l.length (net.row l) ∧ GM intKey w mb N g ∧ N ≤ last ∧ NInv last l g ∧ NBytes C w l ∧ l.length ≤ last ∧ B ≤ p ∧ B ≤ mb

/-- What may be turned beside a net: blocks of cells that are none of its own, nor its bytes. -/
def NetFree (C : Nat) (w : World) (k : Nat) : Prop := ∃ cs T fr, w.heap[k]? = some (.cells cs T fr) ∧ T ≠ 147 ∧ T ≠ 149 ∧ (T = 5 → k < C)
theorem NetFree.not_ty {C : Nat} {w : World} {k : Nat} (h : NetFree C w k) : ¬ NetTy w k := by
  obtain ⟨cs, T, fr, h0, h1, h2, _⟩ := h
  rintro (⟨c, f, h⟩ | ⟨c, f, h⟩ | ⟨c, f, h⟩)
  · rw [h0] at h; simp at h; exact h1 h.2.1
  · rw [h0] at h; simp at h; exact h2 h.2.1
  · rw [h0] at h; simp at h
theorem GM.ty {w : World} {b N : Nat} {g : Int → Option Value} (h : GM intKey w b N g) : NetTy w b := by
  obtain ⟨D, ⟨es, clock, h1, _⟩, _⟩ := h
  exact .inr (.inr ⟨es, clock, h1⟩)
theorem net.row_ty {w : World} {B n : Nat} {v : Value} {xs : List Value} (h : w.ownsRow B 149 3 v n xs) {k : Nat} (hk : v.ownBlock = some k) : B ≤ k ∧ NetTy w k := by
  rcases h.2 with ⟨rfl, _⟩ | ⟨g, cap, cur, rfl, hB, hg, _⟩
  · cases hk
  · obtain rfl : g = k := by simpa [Value.ownBlock] using hk
    exact ⟨hB, .inr (.inl ⟨_, _, hg⟩)⟩
theorem GM.not_own {w : World} {b N : Nat} {g : Int → Option Value} (h : GM intKey w b N g) {base s n : Nat} {e : TypeId} {v : Value} {xs : List Value} (hr : w.ownsRow base e s v n xs) : v.ownBlock ≠ some b := by
  intro hk
  obtain ⟨D, ⟨es, clock, h1, _⟩, _⟩ := h
  rcases hr.2 with ⟨rfl, _⟩ | ⟨g, cap, cur, rfl, _, hg, _⟩
  · cases hk
  · obtain rfl : g = b := by simpa [Value.ownBlock] using hk
    rw [h1] at hg
    simp at hg
theorem net.blk_ty {w : World} {p : Nat} {cs : Array Value} (h : Blk w p 147 cs) : NetTy w p := .inl ⟨_, _, h⟩
theorem NBytes.chg {C : Nat} {w w' : World} {l : List NItm} {P : Nat → Prop} (h : NBytes C w l) (hc : Chg w w' P) (hp : ∀ k, P k → NetTy w k ∨ NetFree C w k) : NBytes C w' l := fun x hx hg => by
  obtain ⟨h1, h2⟩ := h x hx hg
  refine ⟨hc.own h1 fun k hk hh => ?_, h2⟩
  rcases hp k hh with ht | ⟨cs, T, fr, h0, _, _, hT⟩
  · exact ht.not_row h1 (by decide) (by decide) hk
  · rcases h1.2 with ⟨e, _⟩ | ⟨g, cap, cur, e, hB, hg, _⟩
    · rw [e] at hk; cases hk
    · rw [e] at hk
      obtain rfl : g = k := by simpa [Value.ownBlock] using hk
      rw [hg] at h0
      simp at h0
      have := hT h0.2.1.symm
      omega
theorem NetAt.chg {B C : Nat} {w w' : World} {p last : Nat} {l : List NItm} {P : Nat → Prop} (h : NetAt B C w p last l) (hc : Chg w w' P) (hp : ∀ k, P k → NetFree C w k) : NetAt B C w' p last l := by
  obtain ⟨rv, mb, N, g, h1, h2, h3, h4, h5, h6, h7⟩ := h
  exact ⟨rv, mb, N, g, hc.blk h1 fun hh => (hp _ hh).not_ty (net.blk_ty h1), hc.own h2 fun k hk hh => (hp _ hh).not_ty (net.row_ty h2 hk).2, h3.chg hc fun hh => (hp _ hh).not_ty h3.ty, h4, h5, h6.chg hc fun k hk => .inr (hp k hk), h7⟩
theorem NetAt.below {B C : Nat} {w w' : World} {p last : Nat} {l : List NItm} (h : NetAt B C w p last l) (hb : Below w.heap.size w w') : NetAt B C w' p last l := h.chg (chg_of (P := fun _ => False) hb) fun _ h => h.elim
theorem NetAt.drewN {B C : Nat} {w : World} {p last : Nat} {l : List NItm} (h : NetAt B C w p last l) (q : Nat) : NetAt B C (w.drewN q) p last l := h.below (bdrew (Below.refl _ w) q)

theorem net.new_any (B C : Nat) (w : World) (hB : B ≤ w.heap.size) :
    Calls Try.prog 54 #[] w fun e w' => ∃ p, e = .returned (.pointer (some ⟨p, 0, none⟩)) ∧ NetAt B C w' p 0 [] ∧ Below w.heap.size w w' := by
  go_enter Try.func54, Try.ntmps54
  have hmm := @run_makeMap Try.prog
  go_wp2
  go_ret
  have hgm := (GM.made intKey w).below ((Below.refl _ _).alloc (Nat.le_refl _) (.cells #[.int .i64 0, .slice none 0 0, .int .i64 0, .map (some w.heap.size)] 147)) (by simp)
  refine ⟨_, rfl, ⟨.slice none 0 0, w.heap.size, 0, fun _ => none, (by have := Blk.new (w.alloc (.map #[] 0)) 147 #[.int .i64 0, .slice none 0 0, .int .i64 0, .map (some w.heap.size)]; simp only [World.size_alloc] at this; exact this), World.ownsRow_nil _ _ _ _, hgm, Nat.le_refl _, ⟨fun i x h => by simp at h, fun k v _ h => by cases h⟩, fun x hx => by simp at hx, Nat.le_refl _, by omega, hB⟩, ?_⟩
  go_grown

theorem net.place_nil (k : Int) (w : World) :
    Calls Try.prog 88 #[.pointer none, .int .i64 k] w fun e w' => e = .returned (.tuple #[.int .i64 0, .bool false]) ∧ w' = w := by
  go_enter Try.func88, Try.ntmps88
  go_wp2
  go_ret2
  exact ⟨rfl, rfl⟩
theorem zero_int (w : World) : (zeroValue 3).run Try.prog w = .ok (.int .i64 0) w := by
  obtain ⟨i, h1, h2, _⟩ := info_parts (show (Try.prog.info? 3).map (fun i => (i.zero, i.size, i.bytes)) = some (some (.int .i64 0), 1, 8) by kernel_rfl)
  simp [zeroValue, typeInfo, h1, h2]
theorem net.place_any (p mb N : Nat) (g : Int → Option Value) (a b c : Value) (k : Int) (w : World) (hb : Blk w p 147 #[a, b, c, .map (some mb)]) (hg : GM intKey w mb N g) (hk : intOk k) :
    Calls Try.prog 88 #[.pointer (some ⟨p, 0, none⟩), .int .i64 k] w fun e w' => e = .returned (.tuple #[(g k).getD (.int .i64 0), .bool (g k).isSome]) ∧ w' = w := by
  go_enter Try.func88, Try.ntmps88
  have c3 : w.cell? ⟨p, 3, none⟩ = some (.map (some mb)) := hb.cell 3 rfl
  have hl := hg.look Try.underlying144 (zero_int w) k hk
  change (Instr.lookup _ _ (.int .i64 k) true).run _ _ = _ at hl
  clear hb hg
  go_wp2
  go_ret2
  exact ⟨rfl, rfl⟩
theorem infoItem : (Try.prog.info? 149).map (fun i => (i.zero, i.size, i.bytes)) = some (some (.agg #[.int .i64 0, .slice none 0 0, .bool false]), 3, 40) := by kernel_rfl

/-- What Send leaves. -/
theorem net.sent {B C : Nat} {w' : World} {p last mb N : Nat} {l : List NItm} {L : List Nat} {g : Int → Option Value} {rv' : Value} {Av : Option Addr} {kv cv : Nat} (hl : l.length ≤ last) (hlast : last ≤ 1000000000) (hi : NInv last l g)
    (hb : Blk w' p 147 #[.int .i64 ((last : Int) + 1), rv', .int .i64 (net.goneN l), .map (some mb)]) (hr : w'.ownsRow B 149 3 rv' (l.length + 1) (net.row l ++ [.int .i64 ((last : Int) + 1), .slice Av kv cv, .bool false]))
    (hg : GM intKey w' mb (if (g ((last : Int) + 1)).isSome then N else N + 1) (gput g ((last : Int) + 1) (.int .i64 l.length))) (hN : N ≤ last) (hbs : NBytes C w' l) (hv : w'.ownsRow C 5 1 (.slice Av kv cv) L.length (u8s L)) (hL : L.length ≤ 1000000) (hB : B ≤ p) (hmb : B ≤ mb) :
    NetAt B C w' p (last + 1) (l ++ [⟨last + 1, Av, kv, cv, false, L⟩]) := by
  refine ⟨rv', mb, _, _, by rw [net.goneN_snoc l ⟨last + 1, Av, kv, cv, false, L⟩ rfl]; exact hb, by rw [net.row_snoc, List.length_append]; exact hr, hg, by split <;> omega, ⟨fun i x h hgn => ?_, fun k z hk hz => ?_⟩, fun x hx hgn => ?_, by simp; omega, hB, hmb⟩
  · rcases Nat.lt_or_ge i l.length with h' | h'
    · rw [List.getElem?_append_left h'] at h
      obtain ⟨h1, h2, h3⟩ := hi.at' i x h hgn
      refine ⟨?_, h2, by omega⟩
      rw [gput_other _ (by omega)]
      exact h1
    · rw [List.getElem?_append_right h'] at h
      have hi0 : i - l.length = 0 := by
        rcases Nat.eq_zero_or_pos (i - l.length) with h0 | h0
        · exact h0
        · rw [List.getElem?_eq_none (by simp; omega)] at h; cases h
      rw [hi0] at h
      simp at h
      subst h
      obtain rfl : i = l.length := by omega
      exact ⟨gput_same _ _ _, by simp; omega, by simp⟩
  · by_cases e : k = (last : Int) + 1
    · subst e
      rw [gput_same] at hz
      cases hz
      exact ⟨l.length, ⟨last + 1, Av, kv, cv, false, L⟩, by simp, rfl, rfl, rfl⟩
    · rw [gput_other _ e] at hz
      obtain ⟨i, x, h1, h2, h3, h4⟩ := hi.back k z hk hz
      exact ⟨i, x, by rw [List.getElem?_append_left]; exact h1; exact (List.getElem?_eq_some_iff.1 h1).1, h2, h3, h4⟩
  · rcases List.mem_append.1 hx with hx | hx
    · exact hbs x hx hgn
    · obtain rfl := List.mem_singleton.1 hx
      exact ⟨hv, hL⟩

theorem own_row_pos {w : World} {base : Nat} {e : TypeId} {size : Nat} {v : Value} {n : Nat} {xs : List Value} (h : w.ownsRow base e size v n xs) (hn : 0 < n) :
    ∃ g c, v = .slice (some ⟨g, 0, none⟩) n c ∧ n ≤ c ∧ c ≤ maxLen ∧ base ≤ g ∧ g < w.heap.size ∧ At w (some ⟨g, 0, none⟩) (n * size) (fun j => xs.getD j undef) := by
  obtain ⟨A, c, hv, hc, hat⟩ := own_at h
  have hcap := h
  rcases h.2 with ⟨h1, h2⟩ | ⟨g, cap, cur, h1, h2, -⟩
  · omega
  · subst h1
    obtain ⟨rfl, rfl⟩ : some ⟨g, 0, none⟩ = A ∧ cap = c := by simpa using hv
    exact ⟨g, cap, rfl, hc, own_cap hcap, h2, (hcap.lt g rfl).2, hat⟩

theorem net.send_nil (b : Value) (w : World) :
    Calls Try.prog 55 #[.pointer none, b] w fun e w' => e = .returned (.int .i64 0) ∧ w' = w := by
  go_enter Try.func55, Try.ntmps55
  go_wp2
  go_ret
  exact ⟨rfl, rfl⟩
end Go.Proofs.Ytbbekgliaedigaa

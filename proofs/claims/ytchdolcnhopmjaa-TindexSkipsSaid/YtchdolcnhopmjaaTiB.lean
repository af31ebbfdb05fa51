/- tindex.Build of any bytes: the index of times, batch by batch. -/
import Derived.Test.YtchdolcnhopmjaaOiW
import Derived.Test.YtchdolcnhopmjaaWkD
namespace Go.Proofs.Ytchdolcnhopmjaa
open Go.RowKit

theorem ti.infoEnt : (Try.prog.info? 66).map (fun i => (i.zero, i.size, i.bytes)) = some (some (.agg #[.int .i64 0, .int .i64 0]), 2, 16) := by kernel_rfl

/-- Where to begin. -/
def ti.look (f : Nat → Nat → Int) (t : Int) : Nat → Int
  | 0 => 0
  | k + 1 => if f k 0 < t then max (ti.look f t k) (f k 1) else ti.look f t k

/-- The entry ahead of entry k; entry k may not stand there. -/
def ti.pre (f : Nat → Nat → Int) : Nat → Nat → Int
  | 0, 0 => 0
  | 0, _ + 1 => -1
  | k + 1, j => f k j
def ti.bad (f : Nat → Nat → Int) (k : Nat) : Prop := f k 0 < ti.pre f k 0 ∨ f k 1 ≤ ti.pre f k 1
theorem ti.pre_ge (f : Nat → Nat → Int) : ∀ k, (∀ j, j < k → ¬ ti.bad f j) → 0 ≤ ti.pre f k 0 ∧ -1 ≤ ti.pre f k 1
  | 0, _ => ⟨Int.le_refl _, Int.le_refl _⟩
  | k + 1, h => by
    have ih := ti.pre_ge f k fun j hj => h j (by omega)
    have hk := h k (by omega)
    unfold ti.bad at hk
    show 0 ≤ f k 0 ∧ -1 ≤ f k 1
    omega

def ti.EncPost (w : World) (f : Nat → Nat → Int) (n : Nat) (e : Ending) (w' : World) : Prop :=
  (((∀ j, j < n → ¬ ti.bad f j) ∧ ∃ v, e = .returned (.tuple #[v, .int .i64 0]) ∧ w'.ownsRow w.heap.size 5 1 v (oi.enc f n).length (u8s (oi.enc f n))) ∨
    ((∃ k, k < n ∧ ti.bad f k ∧ ∀ j, j < k → ¬ ti.bad f j) ∧ e = .returned (.tuple #[.slice none 0 0, .int .i64 1]))) ∧ Below w.heap.size w w'

/-- As the loop goes: the entry ahead at p, the writer behind it. -/
def ti.EncRel (w : World) (p : Nat) (f : Nat → Nat → Int) (k : Nat) (wr : World) : Prop :=
  ∃ v, Blk wr p 66 #[.int .i64 (ti.pre f k 0), .int .i64 (ti.pre f k 1)] ∧ Wr wr (p + 1) (p + 1) v (oi.enc f k) false ∧ Below w.heap.size w wr ∧ ∀ j, j < k → ¬ ti.bad f j

set_option maxRecDepth 20000 in
set_option maxHeartbeats 1000000 in
theorem ti.encode_any (A : Option Addr) (n c : Nat) (f : Nat → Nat → Int) (w : World) (hn : n ≤ 1000) (hat : At2 w A n f) (hf : ∀ i j, i < n → j < 2 → -9223372036854775808 ≤ f i j ∧ f i j ≤ 9223372036854775807) :
    Calls Try.prog 26 #[.slice A n c] w (ti.EncPost w f n) := by
  have HAT := Lib.hid hat; clear hat
  have HF := Lib.hid hf; clear hf
  go_enter Try.func26, Try.ntmps26
  go_wp2
  go_loopw [13] (fun i wr => ∃ k : Nat, k ≤ n ∧ i = .int .i64 (k : Int) ∧ ti.EncRel w w.heap.size f k wr) (fun i _ => n - (intOf i).toNat)
  case atStart =>
    refine ⟨0, by omega, rfl, .slice none 0 0, ?_, ?_, ((Below.refl _ w).alloc (Nat.le_refl _) _).alloc (by simp) _, fun j hj => absurd hj (by omega)⟩
    · exact (Below.heap_alloc _ _ _ (by simp)).trans (Blk.new w 66 #[.int .i64 0, .int .i64 (-1)])
    · have := Wr.new (w.alloc (.cells #[.int .i64 0, .int .i64 (-1)] 66))
      rw [World.size_alloc] at this
      exact this
  case round =>
    obtain ⟨k, hk, rfl, v, hp, hw, hb, hok⟩ := hrel
    have HW := Lib.hid hw; clear hw
    have HB := Lib.hid hb; clear hb
    have HOK := Lib.hid hok; clear hok
    have hpz : w.heap.size < wr.heap.size := hp.lt
    by_cases hlt : k < n
    · obtain ⟨b, off, rfl, hbb, c0, c1⟩ := (HAT.out.below HB.out (Nat.le_refl _)).get k hlt
      have p0 := hp.cell 0 (v := .int .i64 (ti.pre f k 0)) rfl
      have p1 := hp.cell 1 (v := .int .i64 (ti.pre f k 1)) rfl
      have hpre := ti.pre_ge f k HOK.out
      by_cases hbad : ti.bad f k
      · have HBAD := Lib.hid hbad
        rcases hbad with g0 | g1
        · go_wp2
          go_ret2
          exact ⟨.inr ⟨⟨k, hlt, HBAD.out, HOK.out⟩, rfl⟩, HB.out.alloc (by omega) _⟩
        · by_cases g0 : f k 0 < ti.pre f k 0
          all_goals
            go_wp2
            go_ret2
            exact ⟨.inr ⟨⟨k, hlt, HBAD.out, HOK.out⟩, rfl⟩, HB.out.alloc (by omega) _⟩
      · have g0 : ¬ f k 0 < ti.pre f k 0 := fun h => hbad (.inl h)
        have g1 : ¬ f k 1 ≤ ti.pre f k 1 := fun h => hbad (.inr h)
        have HBAD := Lib.hid hbad; clear hbad
        obtain ⟨a0, ha0⟩ := Int.eq_ofNat_of_zero_le (show 0 ≤ f k 0 by omega)
        obtain ⟨a1, ha1⟩ := Int.eq_ofNat_of_zero_le (show 0 ≤ f k 1 by omega)
        have hfb0 := HF.out k 0 hlt (by omega)
        have hfb1 := HF.out k 1 hlt (by omega)
        have henc : oi.enc f (k + 1) = oi.enc f k ++ wire.be a0 8 ++ wire.be a1 8 := by
          rw [oi.enc, oi.enc1, ha0, ha1, List.append_assoc]; rfl
        have HENC := Lib.hid henc; clear henc
        have hpre1 : ∀ (v : Value), v = .int .i64 (a0 : Int) → v = .int .i64 (ti.pre f (k + 1) 0) := fun v h => by rw [h]; exact congrArg (Value.int .i64) ha0.symm
        have hpre2 : ∀ (v : Value), v = .int .i64 (a1 : Int) → v = .int .i64 (ti.pre f (k + 1) 1) := fun v h => by rw [h]; exact congrArg (Value.int .i64) ha1.symm
        have HP1 := Lib.hid hpre1; clear hpre1
        have HP2 := Lib.hid hpre2; clear hpre2
        have hfit0 : wire.fit (a0 : Int) 8 = true := oi.fit8 (by omega)
        have hfit1 : wire.fit (a1 : Int) 8 = true := oi.fit8 (by omega)
        have HFIT := Lib.hid (And.intro hfit0 hfit1); clear hfit0 hfit1
        rw [ha0] at c0 g0 hfb0
        rw [ha1] at c1 g1 hfb1
        clear ha0 ha1
        generalize ti.pre f k 0 = r0 at *
        generalize ti.pre f k 1 = r1 at *
        have hLk : (oi.enc f k).length = 16 * k := oi.enc_len f k
        generalize oi.enc f k = E at *
        go_wp2_with fail
        obtain ⟨q, hq⟩ : ∃ q, q = wr.heap.size := ⟨_, rfl⟩
        have hx : Blk (wr.alloc (.cells #[.int .i64 (a0 : Int), .int .i64 (a1 : Int)] 66)) q 66 #[.int .i64 (a0 : Int), .int .i64 (a1 : Int)] := by rw [hq]; exact Blk.new _ _ _
        have hwq := HW.out.alloc (.cells #[.int .i64 (a0 : Int), .int .i64 (a1 : Int)] 66)
        have hbq := HB.out.alloc HB.out.size (.cells #[.int .i64 (a0 : Int), .int .i64 (a1 : Int)] 66)
        have hpq : Blk (wr.alloc (.cells #[.int .i64 (a0 : Int), .int .i64 (a1 : Int)] 66)) w.heap.size 66 #[.int .i64 r0, .int .i64 r1] := (Below.heap_alloc _ _ _ hpz).trans hp
        have hqp : ∀ u : Value, Wr (wr.alloc (.cells #[.int .i64 (a0 : Int), .int .i64 (a1 : Int)] 66)) (w.heap.size + 1) (w.heap.size + 1) u E false → q ≠ w.heap.size + 1 := fun u h => by have := HW.out.blk.lt; omega
        have hqne := hqp v hwq
        clear hqp
        rw [← hq] at *
        generalize wr.alloc (.cells #[.int .i64 (a0 : Int), .int .i64 (a1 : Int)] 66) = wq at *
        clear hp p0 p1 c0 c1 HW HB hq
        have hx0 := hx.cell 0 (v := .int .i64 (a0 : Int)) rfl
        have hx1 := hx.cell 1 (v := .int .i64 (a1 : Int)) rfl
        have hne : (66 : Nat) ≠ 5 := by decide
        have hstep : ∀ (wA wB : World) (u : Value) (L M : List Nat), Wr wA (w.heap.size + 1) (w.heap.size + 1) u L false → Blk wA q 66 #[.int .i64 (a0 : Int), .int .i64 (a1 : Int)] → Blk wA w.heap.size 66 #[.int .i64 r0, .int .i64 r1] → Below w.heap.size w wA →
            WrDone wA (w.heap.size + 1) (w.heap.size + 1) u M false wB → ∃ u', Wr wB (w.heap.size + 1) (w.heap.size + 1) u' M false ∧ Blk wB q 66 #[.int .i64 (a0 : Int), .int .i64 (a1 : Int)] ∧ Blk wB w.heap.size 66 #[.int .i64 r0, .int .i64 r1] ∧ Below w.heap.size w wB := by
          rintro wA wB u L M h1 h2 h3 h4 ⟨u', h5, h6, -⟩
          refine ⟨u', h5, h6.blk h2 ?_, h6.blk h3 ?_, h4.trans ((h1.below h6).mono (by omega))⟩
          · rintro (h | h)
            · exact hqne h
            · exact h2.not_row hne h1.row h
          · rintro (h | h)
            · omega
            · exact h3.not_row hne h1.row h
        have HST := Lib.hid hstep; clear hstep
        have HX := Lib.hid hx; clear hx
        have HPQ := Lib.hid hpq; clear hpq
        have HW := Lib.hid hwq; clear hwq
        have HB := Lib.hid hbq; clear hbq
        go_region_law
          (first
            | (go_simp; go_at_call 31; refine (wire.fixed_any (w.heap.size + 1) (w.heap.size + 1) u1 (E ++ wire.be a0 8) false a1 8 _ HW1.out (by rw [List.length_append, wire.be_len]; omega) (by omega) (by omega) HFIT.out.2 (by omega)).mono ?_; rintro e w2 ⟨rfl, hd2⟩; obtain ⟨u2', hw2, hx2, hp2, hb2⟩ := HST.out _ _ _ _ _ HW1.out HX1.out HPQ1.out HB1.out hd2; have hy0 := hx2.cell 0 (v := .int .i64 (a0 : Int)) rfl; have hy1 := hx2.cell 1 (v := .int .i64 (a1 : Int)) rfl; have hz0 := hp2.cell 0 (v := .int .i64 r0) rfl; have hz1 := hp2.cell 1 (v := .int .i64 r1) rfl; have hzf0 := hp2.frozen 0; have hzf1 := hp2.frozen 1; have HW2 := Lib.hid hw2; have HP2' := Lib.hid hp2; have HB2 := Lib.hid hb2; clear hw2 hx2 hp2 hb2 hd2)
            | (go_simp; go_at_call 31; refine (wire.fixed_any (w.heap.size + 1) (w.heap.size + 1) v E false a0 8 _ HW.out.drew (by omega) (by omega) (by omega) HFIT.out.1 (by omega)).mono ?_; rintro e w1 ⟨rfl, hd1⟩; obtain ⟨u1, hw1, hxx1, hp1, hb1⟩ := HST.out _ _ _ _ _ HW.out.drew (HX.out.drew 1) (HPQ.out.drew 1) (bdrew HB.out 1) hd1; have hy0 := hxx1.cell 0 (v := .int .i64 (a0 : Int)) rfl; have hy1 := hxx1.cell 1 (v := .int .i64 (a1 : Int)) rfl; have HW1 := Lib.hid hw1; have HX1 := Lib.hid hxx1; have HPQ1 := Lib.hid hp1; have HB1 := Lib.hid hb1; clear hw1 hxx1 hp1 hb1 hd1))
        all_goals
          go_wp2
          go_roundw
          case rel =>
            refine ⟨k + 1, by omega, by go_num, u2', ?_, ?_, (HB2.out.setCell (p := ⟨w.heap.size, 0, none⟩) (Nat.le_refl _) _).setCell (p := ⟨w.heap.size, 1, none⟩) (Nat.le_refl _) _, fun j hj => ?_⟩
            · have h := (HP2'.out.set 0 (.int .i64 (a0 : Int))).set 1 (.int .i64 (a1 : Int))
              rw [← HP1.out _ rfl, ← HP2.out _ rfl]
              exact h
            · rw [HENC.out]
              have hrow : ∀ k, u2'.ownBlock = some k → ¬ k = w.heap.size := fun k h e => by have := (HW2.out.row.lt k h).1; omega
              exact (HW2.out.chg (Chg.setCell w2 w.heap.size 0 (.int .i64 (a0 : Int))) (by omega) hrow).chg (Chg.setCell _ w.heap.size 1 (.int .i64 (a1 : Int))) (by omega) hrow
            · by_cases hjk : j < k
              · exact HOK.out j hjk
              · obtain rfl : j = k := by omega
                exact HBAD.out
          case measure => simp [intOf]; omega
    · obtain rfl : k = n := by omega
      go_wp2_with fail
      refine (wire.done_any _ _ v _ wr HW.out (by rw [oi.enc_len]; omega)).mono ?_
      rintro e w2 ⟨⟨u, rfl, hown⟩, hb2⟩
      have HO := Lib.hid (ownsRow_base2 hown HB.out.size); clear hown
      have HB2 := Lib.hid (HB.out.trans (hb2.mono HB.out.size)); clear hb2
      go_wp2
      go_ret2
      exact ⟨.inl ⟨HOK.out, _, rfl, HO.out⟩, HB2.out⟩

def ti.DecPost (w : World) (f : Nat → Nat → Int) (n : Nat) (T : List Nat) (e : Ending) (w' : World) : Prop :=
  ((T = [] ∧ ∃ v, e = .returned (.tuple #[v, .int .i64 0]) ∧ w'.ownsRow w.heap.size 66 2 v n (rows2 f n)) ∨ (T ≠ [] ∧ e = .returned (.tuple #[.slice none 0 0, .int .i64 2]))) ∧ Below w.heap.size w w'

/-- As the loop goes: the entry ahead at p, the reader r, what is gathered. -/
def ti.DecRel (w : World) (A : Option Addr) (p r : Nat) (f : Nat → Nat → Int) (n : Nat) (T : List Nat) (k : Nat) (u : Value) (wr : World) : Prop :=
  Blk wr p 66 #[.int .i64 (ti.pre f k 0), .int .i64 (ti.pre f k 1)] ∧ RdNear wr r A ((oi.enc f n ++ T).drop (16 * k)) 0 ∧ wr.ownsRow (r + 1) 66 2 u k (rows2 f k) ∧ Below w.heap.size w wr

/-- Inside a round: the entry ahead at p, the new one at q, the reader r, what is gathered. -/
structure ti.St (w : World) (A : Option Addr) (p r q : Nat) (r0 r1 x y : Int) (L : List Nat) (u : Value) (k : Nat) (rows : List Value) (W : World) : Prop where
  pre : Blk W p 66 #[.int .i64 r0, .int .i64 r1]
  ent : Blk W q 66 #[.int .i64 x, .int .i64 y]
  rd : RdNear W r A L 0
  low : ∀ a, A = some a → a.block < w.heap.size
  own : W.ownsRow (r + 1) 66 2 u k rows
  bel : Below w.heap.size w W
  qr : q ≠ r
  qp : q ≠ p
  pr : p < r
  qu : u.ownBlock ≠ some q
  wp : w.heap.size ≤ p
  wq : w.heap.size ≤ q
theorem ti.St.fixed {w : World} {A : Option Addr} {p r q : Nat} {r0 r1 x y : Int} {L L' : List Nat} {u : Value} {k : Nat} {rows : List Value} {W W' : World} (h : ti.St w A p r q r0 r1 x y L u k rows W) (hc : Chg W W' (rdT r)) (hr : RdNear W' r A L' 0) :
    ti.St w A p r q r0 r1 x y L' u k rows W' :=
  { h with pre := hc.blk h.pre (show ¬ p = r by have := h.pr; omega), ent := hc.blk h.ent h.qr, rd := hr,
           own := hc.own h.own (fun j hj e => by have := (h.own.lt j hj).1; have e' : j = r := e; omega),
           bel := h.bel.trans (hc.below h.bel.size fun j hj => by have e' : j = r := hj; have := h.wp; have := h.pr; omega) }
theorem ti.St.set0 {w : World} {A : Option Addr} {p r q : Nat} {r0 r1 x y : Int} {L : List Nat} {u : Value} {k : Nat} {rows : List Value} {W : World} (h : ti.St w A p r q r0 r1 x y L u k rows W) (z : Int) :
    ti.St w A p r q r0 r1 z y L u k rows (W.setCell ⟨q, 0, none⟩ (.int .i64 z)) :=
  have hc := Chg.setCell W q 0 (.int .i64 z)
  { h with pre := hc.blk h.pre (fun e => h.qp e.symm), ent := h.ent.set 0 _, rd := h.rd.ints h.ent h.qr 0 _, own := hc.own h.own (fun j hj e => h.qu (by rw [hj, show j = q from e])), bel := h.bel.setCell (p := ⟨q, 0, none⟩) h.wq _ }
theorem ti.St.set1 {w : World} {A : Option Addr} {p r q : Nat} {r0 r1 x y : Int} {L : List Nat} {u : Value} {k : Nat} {rows : List Value} {W : World} (h : ti.St w A p r q r0 r1 x y L u k rows W) (z : Int) :
    ti.St w A p r q r0 r1 x z L u k rows (W.setCell ⟨q, 1, none⟩ (.int .i64 z)) :=
  have hc := Chg.setCell W q 1 (.int .i64 z)
  { h with pre := hc.blk h.pre (fun e => h.qp e.symm), ent := h.ent.set 1 _, rd := h.rd.ints h.ent h.qr 1 _, own := hc.own h.own (fun j hj e => h.qu (by rw [hj, show j = q from e])), bel := h.bel.setCell (p := ⟨q, 1, none⟩) h.wq _ }

theorem ti.St.grown {w : World} {A : Option Addr} {p r q : Nat} {r0 r1 x y : Int} {L : List Nat} {u u' : Value} {k k' : Nat} {rows rows' : List Value} {W W' : World} {o : Obj} (h : ti.St w A p r q r0 r1 x y L u k rows W) (hg : (W.alloc o).grownBy W' u.ownBlock) (hl : Lies (W.alloc o) u u')
    (hown : W'.ownsRow (r + 1) 66 2 u' k' rows') : ti.St w A p r q r0 r1 x y L u' k' rows' W' := by
  have hc : Chg W W' (fun j => u.ownBlock = some j) := ((Chg.alloc W o (fun _ => False)).mono (Q := fun j => u.ownBlock = some j) fun _ _ h => h.elim).trans (Chg.grown hg) fun _ _ e => e
  have hcu : ∀ j, u.ownBlock = some j → r + 1 ≤ j := fun j e => (h.own.lt j e).1
  have hpr := h.pr
  refine { h with pre := hc.blk h.pre (fun e => by have := hcu p e; omega), ent := hc.blk h.ent h.qu, rd := ?_, own := hown, bel := ?_, qu := ?_ }
  · obtain ⟨A2, c, hr, hnear⟩ := h.rd
    refine ⟨A2, c, ⟨hc.blk hr.blk (fun e => by have := hcu r e; omega), hc.at' hr.lie (fun hm b off hA e => ?_), hr.len, hr.cap, hr.byte⟩, hnear⟩
    obtain ⟨a, ha, hab⟩ := hnear _ hA
    have h1 := h.low a ha
    have h2 := hcu b e
    have h3 := h.wp
    have hab' : a.block = b := hab
    omega
  · exact h.bel.trans (hc.below h.bel.size fun j e => by have := hcu j e; have := h.wp; omega)
  · rcases hl with hl | hl
    · rw [hl]; exact h.qu
    · rw [hl]
      intro e
      have := h.ent.lt
      simp at e
      omega
theorem ti.St.setp {w : World} {A : Option Addr} {p r q : Nat} {r0 r1 x y : Int} {L : List Nat} {u : Value} {k : Nat} {rows : List Value} {W : World} (h : ti.St w A p r q r0 r1 x y L u k rows W) :
    ti.St w A p r q x y x y L u k rows ((W.setCell ⟨p, 0, none⟩ (.int .i64 x)).setCell ⟨p, 1, none⟩ (.int .i64 y)) := by
  have hc := Chg.setCell W p 0 (.int .i64 x)
  have hc2 := Chg.setCell (W.setCell ⟨p, 0, none⟩ (.int .i64 x)) p 1 (.int .i64 y)
  have hpr := h.pr
  have hrow : ∀ j, u.ownBlock = some j → ¬ j = p := fun j hj e => by have := (h.own.lt j hj).1; omega
  exact { h with pre := (h.pre.set 0 _).set 1 _, ent := hc2.blk (hc.blk h.ent h.qp) h.qp, rd := (h.rd.ints h.pre (by omega) 0 _).ints (h.pre.set 0 _) (by omega) 1 _, own := hc2.own (hc.own h.own hrow) hrow,
                 bel := (h.bel.setCell (p := ⟨p, 0, none⟩) h.wp _).setCell (p := ⟨p, 1, none⟩) h.wp _ }

set_option maxRecDepth 20000 in
set_option maxHeartbeats 1000000 in
theorem ti.decode_any (A : Option Addr) (m c n : Nat) (f : Nat → Nat → Int) (T : List Nat) (w : World) (hn : n ≤ 1000) (hT : T.length < 8) (hTb : ∀ x ∈ T, x < 256) (hf : ∀ i j, i < n → j < 2 → -9223372036854775808 ≤ f i j ∧ f i j ≤ 9223372036854775807)
    (hok : ∀ j, j < n → ¬ ti.bad f j) (hm : (oi.enc f n ++ T).length = m) (hat : At w A m (byteAt (oi.enc f n ++ T))) (hc : m ≤ c ∧ c ≤ maxLen) :
    Calls Try.prog 27 #[.slice A m c] w (ti.DecPost w f n T) := by
  obtain ⟨i0, hi, hz0, hz1, hz2⟩ := info_parts ti.infoEnt
  have HF := Lib.hid hf; clear hf
  have HOK := Lib.hid hok; clear hok
  have hlow : 0 < m → ∀ a, A = some a → a.block < w.heap.size := fun h a ha => by
    obtain ⟨b, off, hA, hb, _⟩ := hat h
    rw [ha] at hA
    cases hA
    exact hb
  have HLOW := Lib.hid hlow; clear hlow
  have hbor := fun w' (hb : Below w.heap.size w w') => wire.borrow_at A c (oi.enc f n ++ T) w' (by rw [hm]; exact hat.below hb (Nat.le_refl _)) (by rw [hm]; exact hc.1) hc.2 (fun x hx => by
    rcases List.mem_append.1 hx with h | h
    · exact oi.enc_byte f n x h
    · exact hTb x h)
  rw [hm] at hbor
  have HBOR := Lib.hid hbor; clear hbor hat hTb
  have HM := Lib.hid hm; clear hm
  go_enter Try.func27, Try.ntmps27
  go_wp2_with fail
  refine (HBOR.out _ ((Below.refl _ w).alloc (Nat.le_refl _) _)).mono ?_
  rintro e w1 ⟨r, rfl, hrd, hrr, hb1⟩
  have hbl : Below w.heap.size w w1 := ((Below.refl _ w).alloc (Nat.le_refl _) _).trans (hb1.mono (by simp))
  have hblk : Blk w1 w.heap.size 66 #[.int .i64 0, .int .i64 (-1)] := (hb1.block _ (by simp)).trans (Blk.new w _ _)
  have hrr' : w.heap.size < r := by simp at hrr; omega
  have h0 : ti.DecRel w A w.heap.size r f n T 0 (.slice none 0 0) w1 := ⟨hblk, by rw [Nat.mul_zero, List.drop_zero]; exact ⟨A, c, hrd, Near.refl A⟩, World.ownsRow_nil _ _ _ _, hbl⟩
  have H0 := Lib.hid h0; clear h0 hrd hblk hbl hb1 hrr
  go_wp2
  go_loopw [4] (fun v wr => ∃ (k : Nat) (u : Value), u = v ∧ k ≤ n ∧ ti.DecRel w A w.heap.size r f n T k u wr) (fun v _ => n + 1 - oi.lenOf v)
  case atStart => exact ⟨0, _, rfl, by omega, H0.out⟩
  case round =>
    obtain ⟨k, v, rfl, hk, hp, hrd, hown, hb⟩ := hrel
    obtain ⟨A1, c1, hrd, hnear⟩ := hrd
    have HNEAR := Lib.hid hnear; clear hnear
    have HRD := Lib.hid hrd; clear hrd
    have HO := Lib.hid hown
    have HOLD := Lib.hid hown; clear hown
    have HB := Lib.hid hb; clear hb H0
    by_cases hlt : k < n
    · have hbad := HOK.out k hlt
      have hpre := ti.pre_ge f k fun j hj => HOK.out j (by omega)
      have hfb0 := HF.out k 0 hlt (by omega)
      have hfb1 := HF.out k 1 hlt (by omega)
      have g0 : ¬ f k 0 < ti.pre f k 0 := fun h => hbad (.inl h)
      have g1 : ¬ f k 1 ≤ ti.pre f k 1 := fun h => hbad (.inr h)
      obtain ⟨a0, ha0⟩ := Int.eq_ofNat_of_zero_le (show 0 ≤ f k 0 by omega)
      obtain ⟨a1, ha1⟩ := Int.eq_ofNat_of_zero_le (show 0 ≤ f k 1 by omega)
      have hd := oi.enc_drop f n k T hlt
      rw [ha0, ha1, Int.toNat_natCast, Int.toNat_natCast] at hd
      have hm0 : 0 < m := by rw [← HM.out, List.length_append, oi.enc_len]; omega
      have hpos : 16 ≤ ((oi.enc f n ++ T).drop (16 * k)).length := by rw [hd]; simp only [List.length_append, wire.be_len]; omega
      have hv0 : ¬ rd.fbad ((oi.enc f n ++ T).drop (16 * k)) ((8 : Nat) : Int) ∧ wire.val (((oi.enc f n ++ T).drop (16 * k)).take 8) = a0 ∧ ((oi.enc f n ++ T).drop (16 * k)).drop 8 = wire.be a1 8 ++ (oi.enc f n ++ T).drop (16 * (k + 1)) := by rw [hd]; exact oi.fixed8 a0 _ (by omega)
      have hv1 : ¬ rd.fbad (wire.be a1 8 ++ (oi.enc f n ++ T).drop (16 * (k + 1))) ((8 : Nat) : Int) ∧ wire.val ((wire.be a1 8 ++ (oi.enc f n ++ T).drop (16 * (k + 1))).take 8) = a1 ∧ (wire.be a1 8 ++ (oi.enc f n ++ T).drop (16 * (k + 1))).drop 8 = (oi.enc f n ++ T).drop (16 * (k + 1)) := oi.fixed8 a1 _ (by omega)
      obtain ⟨D1, hD1⟩ : ∃ D1, D1 = (oi.enc f n ++ T).drop (16 * (k + 1)) := ⟨_, rfl⟩
      rw [← hD1] at hv0 hv1
      have HD1 := Lib.hid hD1; clear hD1
      have HV := Lib.hid (And.intro hv0 hv1); clear hv0 hv1 hd
      have hrows : rows2 f (k + 1) = rows2 f k ++ [.int .i64 (a0 : Int), .int .i64 (a1 : Int)] := by rw [rows2_succ, ha0, ha1]
      have HROWS := Lib.hid hrows; clear hrows
      have hpre1 : Value.int .i64 (a0 : Int) = .int .i64 (ti.pre f (k + 1) 0) := congrArg (Value.int .i64) ha0.symm
      have hpre2 : Value.int .i64 (a1 : Int) = .int .i64 (ti.pre f (k + 1) 1) := congrArg (Value.int .i64) ha1.symm
      have HP1 := Lib.hid hpre1; clear hpre1
      have HP2 := Lib.hid hpre2; clear hpre2
      rw [ha0] at g0
      rw [ha1] at g1
      clear ha0 ha1 hfb0 hfb1 hbad
      generalize ti.pre f k 0 = r0 at *
      generalize ti.pre f k 1 = r1 at *
      generalize (oi.enc f n ++ T).drop (16 * k) = D at *
      generalize rows2 f k = rows at *
      have hpos' : (0 : Int) < (D.length : Int) := by omega
      have HPB := Lib.hid hp; clear hp
      go_wp2_with fail
      refine (wire.left_any r A1 c1 _ 0 wr HRD.out).mono ?_
      rintro en w' ⟨rfl, rfl⟩
      go_wp2_with fail
      obtain ⟨q, hq⟩ : ∃ q, q = wr.heap.size := ⟨_, rfl⟩
      have hst : ti.St w A w.heap.size r q r0 r1 0 0 D v k rows (wr.alloc (.cells #[.int .i64 0, .int .i64 0] 66)) :=
        { pre := (Below.heap_alloc _ _ _ HPB.out.lt).trans HPB.out, ent := by rw [hq]; exact Blk.new _ _ _, rd := ⟨A1, c1, ⟨(Below.heap_alloc _ _ _ HRD.out.blk.lt).trans HRD.out.blk, HRD.out.lie.alloc _, HRD.out.len, HRD.out.cap, HRD.out.byte⟩, HNEAR.out⟩, low := HLOW.out hm0, own := HO.out.alloc _, bel := HB.out.alloc HB.out.size _,
          qr := by have := HRD.out.blk.lt; omega, qp := by have := HPB.out.lt; omega, pr := hrr', qu := fun h => by have := (HO.out.lt q h).2; omega, wp := Nat.le_refl _, wq := by have := HB.out.size; omega }
      rw [← hq] at *
      generalize wr.alloc (.cells #[.int .i64 0, .int .i64 0] 66) = wA at *
      have HST := Lib.hid hst
      obtain ⟨A2, c2, hrd2, hn2⟩ := hst.rd
      have HN2 := Lib.hid hn2
      clear hst HPB HRD HO HB hn2
      refine (wire.rfixed_near r A2 c2 D 8 wA hrd2 HV.out.1.1).mono ?_
      clear hrd2
      rintro en w2 ⟨rfl, ⟨A2', c2', hrd, hn⟩, hch⟩
      rw [HV.out.1.2.1]
      rw [HV.out.1.2.2] at hrd
      have hrd := (show RdNear w2 r A (wire.be a1 8 ++ D1) 0 from ⟨A2', c2', hrd, HN2.out.trans hn⟩)
      have hst := HST.out.fixed hch hrd
      have hc0 := hst.ent.cell 0 (v := .int .i64 0) rfl
      have hf0 := hst.ent.frozen 0
      have HST2 := Lib.hid hst; clear hst hrd hch HST
      go_wp2_with fail
      have hst := HST2.out.set0 (a0 : Int)
      generalize w2.setCell ⟨q, 0, none⟩ (.int .i64 (a0 : Int)) = w3 at *
      have HST3 := Lib.hid hst; clear HST2
      obtain ⟨A3, c3, hrd3, hn3⟩ := hst.rd
      have HN3 := Lib.hid hn3
      clear hst hc0 hf0 hn3
      refine (wire.rfixed_near r A3 c3 (wire.be a1 8 ++ D1) 8 w3 hrd3 HV.out.2.1).mono ?_
      clear hrd3
      rintro en w4 ⟨rfl, ⟨A4', c4', hrd, hn⟩, hch⟩
      rw [HV.out.2.2.1]
      rw [HV.out.2.2.2] at hrd
      have hrd := (show RdNear w4 r A D1 0 from ⟨A4', c4', hrd, HN3.out.trans hn⟩)
      have hst := HST3.out.fixed hch hrd
      have hc1 := hst.ent.cell 1 (v := .int .i64 0) rfl
      have hf1 := hst.ent.frozen 1
      have HST4 := Lib.hid hst; clear hst hrd hch HST3
      go_wp2_with fail
      have hst := HST4.out.set1 (a1 : Int)
      generalize w4.setCell ⟨q, 1, none⟩ (.int .i64 (a1 : Int)) = w5 at *
      have HST5 := Lib.hid hst; clear HST4 hc1 hf1
      obtain ⟨A5, c5, hrd5, -⟩ := hst.rd
      refine (wire.err_any r A5 c5 D1 0 w5 hrd5).mono ?_
      rintro en w' ⟨rfl, rfl⟩
      have q0 := hst.ent.cell 0 (v := .int .i64 (a0 : Int)) rfl
      have q1 := hst.ent.cell 1 (v := .int .i64 (a1 : Int)) rfl
      have p0 := hst.pre.cell 0 (v := .int .i64 r0) rfl
      have p1 := hst.pre.cell 1 (v := .int .i64 r1) rfl
      have hr5 : r < w5.heap.size := hrd5.blk.lt
      clear hst hrd5
      go_wp2_with (at_builtin; refine wpList_app2 _ rfl (.tmp 37) (.tmp 39) 58 rfl (r + 1) 66 i0 _ 2 16 Try.underlying58 hi hz0 hz1 hz2 rfl (by decide) v k rows rfl (HST5.out.own.alloc _) (some ⟨w5.heap.size, 0, none⟩) 1 1 (fun j => (#[Value.int .i64 (a0 : Int), .int .i64 (a1 : Int)] : Array Value).getD j undef) rfl (At.new w5 #[.int .i64 (a0 : Int), .int .i64 (a1 : Int)] 66 (n := 1 * 2) rfl) (ent_one _ _) (by unfold maxLen; omega) (by omega) (by rw [World.size_alloc]; omega) ?_; intro v' w6 hown6 hg6 hl6; rw [ent_cells] at hown6; have hst := HST5.out.grown hg6 hl6 hown6; have y0 := hst.ent.cell 0 (v := .int .i64 (a0 : Int)) rfl; have y1 := hst.ent.cell 1 (v := .int .i64 (a1 : Int)) rfl; have z0 := hst.pre.cell 0 (v := .int .i64 r0) rfl; have z1 := hst.pre.cell 1 (v := .int .i64 r1) rfl; have zf0 := hst.pre.frozen 0; have zf1 := hst.pre.frozen 1; have HST6 := Lib.hid hst; clear hst hown6 hg6 hl6)
      have hst := HST6.out.setp
      obtain ⟨A7, c7, hv7, -⟩ := own_at hst.own
      have HST7 := Lib.hid hst; clear hst HST5 HST6
      go_roundw
      case rel =>
        refine ⟨k + 1, v', rfl, by omega, ?_, by rw [← HD1.out]; exact HST7.out.rd, ?_, HST7.out.bel⟩
        · rw [← HP1.out, ← HP2.out]; exact HST7.out.pre
        · rw [HROWS.out]; exact HST7.out.own
      case measure =>
        rw [hv7]
        obtain ⟨A8, c8, hv8, -⟩ := own_at HOLD.out
        simp [oi.lenOf, hv8]
        omega
    · obtain rfl : k = n := by omega
      have hd : (oi.enc f k ++ T).drop (16 * k) = T := List.drop_left' (oi.enc_len f k)
      rw [hd] at HRD
      clear hd
      have hfx := oi.short T hT
      have HFX := Lib.hid hfx; clear hfx
      by_cases hT0 : T = []
      · have hT1 : (T.length : Int) = 0 := by rw [hT0]; rfl
        go_wp2_with fail
        refine (wire.left_any r A1 c1 _ 0 wr HRD.out).mono ?_
        rintro en w' ⟨rfl, rfl⟩
        go_wp2_with fail
        go_ret2
        exact ⟨.inl ⟨hT0, v, rfl, ⟨HO.out.1, HO.out.2.imp id fun ⟨g, cap, cur, h1, h2, h3⟩ => ⟨g, cap, cur, h1, (by omega), h3⟩⟩⟩, HB.out⟩
      · have hT1 : (0 : Int) < (T.length : Int) := by have := List.length_pos_iff.2 hT0; omega
        go_wp2_with fail
        refine (wire.left_any r A1 c1 _ 0 wr HRD.out).mono ?_
        rintro en w' ⟨rfl, rfl⟩
        go_wp2_with fail
        obtain ⟨q, hq⟩ : ∃ q, q = wr.heap.size := ⟨_, rfl⟩
        have hrd0 : Rd (wr.alloc (.cells #[.int .i64 0, .int .i64 0] 66)) r A1 c1 T 0 := ⟨(Below.heap_alloc _ _ _ HRD.out.blk.lt).trans HRD.out.blk, HRD.out.lie.alloc _, HRD.out.len, HRD.out.cap, HRD.out.byte⟩
        have hx : Blk (wr.alloc (.cells #[.int .i64 0, .int .i64 0] 66)) q 66 #[.int .i64 0, .int .i64 0] := by rw [hq]; exact Blk.new _ _ _
        have hb0 : Below w.heap.size w (wr.alloc (.cells #[.int .i64 0, .int .i64 0] 66)) := HB.out.alloc HB.out.size _
        have hqr : q ≠ r := by have := HRD.out.blk.lt; omega
        have hwq : w.heap.size ≤ q := by have := HB.out.size; omega
        rw [← hq] at *
        generalize wr.alloc (.cells #[.int .i64 0, .int .i64 0] 66) = wA at *
        have HX := Lib.hid hx; clear hx
        have HB0 := Lib.hid hb0; clear hb0
        have hc := wire.rfixed_any r A1 c1 T 0 8 wA hrd0
        rw [HFX.out] at hc
        refine hc.mono ?_
        clear hc hrd0 HRD
        rintro en w2 ⟨rfl, hrd, hch⟩
        have hx := hch.blk HX.out hqr
        have hc0 := hx.cell 0 (v := .int .i64 0) rfl
        have hf0 := hx.frozen 0
        have HB2 := Lib.hid (HB0.out.trans (hch.below HB0.out.size fun j hj => by have e' : j = r := hj; omega))
        clear HB0 hch
        have HX2 := Lib.hid hx; clear hx HX
        have HR2 := Lib.hid hrd; clear hrd
        go_wp2_with fail
        obtain ⟨A3, c3, hrd3⟩ := HR2.out
        have hrd3 : Rd (w2.setCell ⟨q, 0, none⟩ (.int .i64 0)) r A3 c3 [] 2 := by
          have hc := Chg.setCell w2 q 0 (.int .i64 0)
          exact ⟨hc.blk hrd3.blk (fun e => hqr e.symm), (fun h => absurd h (by simp)), hrd3.len, hrd3.cap, hrd3.byte⟩
        have hx := HX2.out.set 0 (.int .i64 0)
        have hb := HB2.out.setCell (p := ⟨q, 0, none⟩) hwq (.int .i64 0)
        generalize w2.setCell ⟨q, 0, none⟩ (.int .i64 0) = w3 at *
        have HX3 := Lib.hid hx; clear hx HX2 HR2 hc0 hf0
        have HB3 := Lib.hid hb; clear hb HB2
        have hc := wire.rfixed_any r A3 c3 [] 2 8 w3 hrd3
        rw [rd.fixed_err [] 2 8 (by decide)] at hc
        refine hc.mono ?_
        clear hc hrd3
        rintro en w4 ⟨rfl, hrd, hch⟩
        have hx := hch.blk HX3.out hqr
        have hc1 := hx.cell 1 (v := .int .i64 0) rfl
        have hf1 := hx.frozen 1
        have HB4 := Lib.hid (HB3.out.trans (hch.below HB3.out.size fun j hj => by have e' : j = r := hj; omega))
        clear HB3 hch
        have HX4 := Lib.hid hx; clear hx HX3
        have HR4 := Lib.hid hrd; clear hrd
        go_wp2_with fail
        obtain ⟨A5, c5, hrd5⟩ := HR4.out
        have hrd5 : Rd (w4.setCell ⟨q, 1, none⟩ (.int .i64 0)) r A5 c5 [] 2 := by
          have hc := Chg.setCell w4 q 1 (.int .i64 0)
          exact ⟨hc.blk hrd5.blk (fun e => hqr e.symm), (fun h => absurd h (by simp)), hrd5.len, hrd5.cap, hrd5.byte⟩
        have hx := HX4.out.set 1 (.int .i64 0)
        have hb := HB4.out.setCell (p := ⟨q, 1, none⟩) hwq (.int .i64 0)
        generalize w4.setCell ⟨q, 1, none⟩ (.int .i64 0) = w5 at *
        refine (wire.err_any r A5 c5 [] 2 w5 hrd5).mono ?_
        rintro en w' ⟨rfl, rfl⟩
        clear hrd5 hc1 hf1 HX4 HR4 HB4
        have HB5 := Lib.hid hb; clear hb
        go_wp2_with fail
        go_ret2
        exact ⟨.inr ⟨hT0, rfl⟩, HB5.out⟩

set_option maxHeartbeats 1000000 in
theorem ti.lookup_any (A : Option Addr) (n c : Nat) (f : Nat → Nat → Int) (t : Int) (w : World) (hn : n ≤ 1099511627776) (h1 : At2 w A n f) :
    Calls Try.prog 28 #[.slice A n c, .int .i64 t] w fun e w' => e = .returned (.int .i64 (ti.look f t n)) ∧ Below w.heap.size w w' := by
  have H1 := Lib.hid h1; clear h1
  go_enter Try.func28, Try.ntmps28
  go_wp2
  go_loopw [5, 10] (fun v i wr => ∃ k : Nat, k ≤ n ∧ i = .int .i64 (k : Int) ∧ v = .int .i64 (ti.look f t k) ∧ Below w.heap.size w wr) (fun _ i _ => n - (intOf i).toNat)
  case atStart => exact ⟨0, by omega, rfl, rfl, Below.refl _ _⟩
  case round =>
    obtain ⟨k, hk, rfl, rfl, hb⟩ := hrel
    have HB := Lib.hid hb; clear hb
    by_cases hlt : k < n
    · obtain ⟨b, off, rfl, hbb, c0, c1⟩ := (H1.out.below HB.out (Nat.le_refl _)).get k hlt
      have he : ti.look f t (k + 1) = if f k 0 < t then max (ti.look f t k) (f k 1) else ti.look f t k := rfl
      have HE := Lib.hid he; clear he
      obtain ⟨lk, hlk⟩ : ∃ lk, lk = ti.look f t k := ⟨_, rfl⟩
      obtain ⟨x, hx⟩ : ∃ x, x = f k 0 := ⟨_, rfl⟩
      obtain ⟨y, hy⟩ : ∃ y, y = f k 1 := ⟨_, rfl⟩
      rw [← hx] at c0
      rw [← hy] at c1
      rw [← hlk]
      have HQ := Lib.hid (show ti.look f t (k + 1) = if x < t then max lk y else lk by rw [hx, hlk, hy]; exact HE.out); clear hlk hx hy HE
      by_cases hlo : x < t
      · have hq := HQ.out
        rw [if_pos hlo] at hq
        have HQ2 := Lib.hid hq; clear hq HQ
        by_cases hy : lk < y
        · have HQ3 := Lib.hid (show ti.look f t (k + 1) = y by rw [HQ2.out]; omega); clear HQ2
          go_wp2
          go_roundw
          case rel => exact ⟨k + 1, by omega, by go_num, by rw [HQ3.out], HB.out.alloc HB.out.size _⟩
          case measure => simp [intOf]; omega
        · have hy2 : y ≤ lk := by omega
          have HQ3 := Lib.hid (show ti.look f t (k + 1) = lk by rw [HQ2.out]; omega); clear HQ2
          go_wp2
          go_roundw
          case rel => exact ⟨k + 1, by omega, by go_num, by rw [HQ3.out], HB.out.alloc HB.out.size _⟩
          case measure => simp [intOf]; omega
      · have hq := HQ.out
        rw [if_neg hlo] at hq
        have HQ2 := Lib.hid hq; clear hq HQ
        go_wp2
        go_roundw
        case rel => exact ⟨k + 1, by omega, by go_num, by rw [HQ2.out], HB.out.alloc HB.out.size _⟩
        case measure => simp [intOf]; omega
    · obtain rfl : k = n := by omega
      go_wp2
      go_ret
      exact ⟨rfl, HB.out⟩

def ti.two (i j : Nat) : Int := (#[(3 : Int), 5, 3, 9] : Array Int).getD (i * 2 + j) 0
theorem ti.two_at (w : World) (t : TypeId) (fr : Nat × Nat) : At2 (w.alloc (.cells #[.int .i64 3, .int .i64 5, .int .i64 3, .int .i64 9] t fr)) (some ⟨w.heap.size, 0, none⟩) 2 ti.two :=
  ⟨_, At.new w #[.int .i64 3, .int .i64 5, .int .i64 3, .int .i64 9] t (n := 2 * 2) rfl, fun i j hi hj => by
    have h : (i = 0 ∨ i = 1) ∧ (j = 0 ∨ j = 1) := by omega
    obtain ⟨rfl | rfl, rfl | rfl⟩ := h <;> rfl⟩
theorem ti.two_bd : ∀ i j, i < 2 → j < 2 → -9223372036854775808 ≤ ti.two i j ∧ ti.two i j ≤ 9223372036854775807 := fun i j hi hj => by
  have h : (i = 0 ∨ i = 1) ∧ (j = 0 ∨ j = 1) := by omega
  obtain ⟨rfl | rfl, rfl | rfl⟩ := h <;> decide
theorem ti.two_ok : ∀ k, k < 2 → ¬ ti.bad ti.two k := fun k hk h => by
  have h' : k = 0 ∨ k = 1 := by omega
  unfold ti.bad at h
  rcases h' with rfl | rfl
  · revert h; decide
  · revert h; decide

set_option maxRecDepth 20000 in
set_option maxHeartbeats 1000000 in
theorem ti.awake_any (w : World) : Calls Try.prog 23 #[] w fun e w' => e = .returned (.bool true) ∧ Below w.heap.size w w' := by
  have l1 : ti.look ti.two 4 2 = 9 := by decide
  have l2 : ti.look ti.two 3 2 = 0 := by decide
  have LL := Lib.hid (And.intro l1 l2); clear l1 l2
  go_enter Try.func23, Try.ntmps23
  go_wp2_with fail
  have h0 := ti.two_at w 66 (0, 0)
  have hb : Below w.heap.size w (w.alloc (.cells #[.int .i64 3, .int .i64 5, .int .i64 3, .int .i64 9] 66)) := (Below.refl _ w).alloc (Nat.le_refl _) _
  have hz : w.heap.size < (w.alloc (.cells #[.int .i64 3, .int .i64 5, .int .i64 3, .int .i64 9] 66)).heap.size := by simp
  refine (ti.encode_any _ 2 _ ti.two _ (by omega) h0 ti.two_bd).mono ?_
  rintro e w1 ⟨h1, hb1⟩
  rcases h1 with ⟨-, v, rfl, hown⟩ | ⟨⟨k, hk, hbad, -⟩, -⟩
  case inr => exact absurd hbad (ti.two_ok k hk)
  have H1 := Lib.hid (h0.below hb1 (Nat.le_refl _))
  have HB1 := Lib.hid (hb.trans (hb1.mono (by omega)))
  rw [oi.enc_len] at hown
  obtain ⟨A1, c1, rfl, -, -⟩ := own_at hown
  clear h0 hb hz hb1 hown
  go_wp2_with fail
  have hd := ti.decode_any (some ⟨w1.heap.size, 0, none⟩) 1 1 0 ti.two [1] (w1.alloc (.cells #[.int .u8 1] 5)) (by omega) (by simp) (by simp) (fun i j hi => absurd hi (by omega)) (fun j hj => absurd hj (by omega)) rfl (oi.byte1 w1 1 5 (0, 0)) (by unfold maxLen; omega)
  refine hd.mono ?_
  clear hd
  rintro e w2 ⟨h2, hb2⟩
  rcases h2 with ⟨h2, -⟩ | ⟨-, rfl⟩
  · exact absurd h2 (by simp)
  have hb12 : Below w1.heap.size w1 w2 := ((Below.refl _ w1).alloc (Nat.le_refl _) _).trans (hb2.mono (by simp))
  have H2 := Lib.hid (H1.out.below hb12 (Nat.le_refl _))
  have HB2 := Lib.hid (HB1.out.trans (hb12.mono HB1.out.size)); clear hb12 hb2 H1 HB1
  go_wp2_with fail
  refine (ti.lookup_any _ 2 _ ti.two 4 w2 (by omega) H2.out).mono ?_
  rintro e w3 ⟨rfl, hb3⟩
  rw [LL.out.1]
  have H3 := Lib.hid (H2.out.below hb3 (Nat.le_refl _))
  have HB3 := Lib.hid (HB2.out.trans (hb3.mono HB2.out.size)); clear hb3 H2
  go_wp2_with fail
  refine (ti.lookup_any _ 2 _ ti.two 3 w3 (by omega) H3.out).mono ?_
  rintro e w4 ⟨rfl, hb4⟩
  rw [LL.out.2]
  have HB4 := Lib.hid (HB3.out.trans (hb4.mono HB3.out.size)); clear hb4 H3
  go_wp2_with fail
  go_ret
  exact ⟨rfl, HB4.out⟩

/-- A batch comes: where the last entry's batch begins, the greatest time so far, the entries. -/
def ti.step (mm : Int) (s : Int × Int × List (Int × Int)) (x : Nat × Bat) : Int × Int × List (Int × Int) :=
  (if mm ≤ (x.1 : Int) - s.1 then (x.1 : Int) else s.1, max s.2.1 (Bat.mostT x.2.recs), if mm ≤ (x.1 : Int) - s.1 then s.2.2 ++ [(s.2.1, x.2.base)] else s.2.2)
def ti.st (mm : Int) (l : List (Nat × Bat)) : Int × Int × List (Int × Int) := l.foldl (ti.step mm) (0, 0, [])
theorem ti.st_snoc (mm : Int) (l : List (Nat × Bat)) (x : Nat × Bat) : ti.st mm (l ++ [x]) = ti.step mm (ti.st mm l) x := by
  unfold ti.st
  rw [List.foldl_append]
  rfl
theorem ti.fold_len (mm : Int) : ∀ (l : List (Nat × Bat)) (s : Int × Int × List (Int × Int)), (l.foldl (ti.step mm) s).2.2.length ≤ s.2.2.length + l.length
  | [], _ => by simp
  | x :: l, s => by
    have h := ti.fold_len mm l (ti.step mm s x)
    have h2 : (ti.step mm s x).2.2.length ≤ s.2.2.length + 1 := by
      unfold ti.step
      dsimp only
      split <;> simp
    rw [List.foldl_cons, List.length_cons]
    omega
theorem ti.st_len (mm : Int) (l : List (Nat × Bat)) : (ti.st mm l).2.2.length ≤ l.length := by
  have h := ti.fold_len mm l (0, 0, [])
  unfold ti.st
  simpa using h
theorem ti.fold_last (mm : Int) : ∀ (l : List (Nat × Bat)) (s : Int × Int × List (Int × Int)), 0 ≤ s.1 → s.1 ≤ 1000000 → (∀ x ∈ l, x.1 ≤ 1000000) → 0 ≤ (l.foldl (ti.step mm) s).1 ∧ (l.foldl (ti.step mm) s).1 ≤ 1000000
  | [], _, h1, h2, _ => ⟨h1, h2⟩
  | x :: l, s, h1, h2, h => by
    have hx := h x (List.mem_cons_self ..)
    refine ti.fold_last mm l (ti.step mm s x) ?_ ?_ fun y hy => h y (List.mem_cons_of_mem _ hy)
    · unfold ti.step
      dsimp only
      split <;> omega
    · unfold ti.step
      dsimp only
      split <;> omega
theorem ti.st_last (mm : Int) (l : List (Nat × Bat)) (h : ∀ x ∈ l, x.1 ≤ 1000000) : 0 ≤ (ti.st mm l).1 ∧ (ti.st mm l).1 ≤ 1000000 := ti.fold_last mm l _ (by decide) (by decide) h
def ti.cell2 (e : Int × Int) : List Value := [.int .i64 e.1, .int .i64 e.2]
def ti.row (E : List (Int × Int)) : List Value := (E.map ti.cell2).flatten
theorem ti.row_snoc (E : List (Int × Int)) (e : Int × Int) : ti.row (E ++ [e]) = ti.row E ++ ti.cell2 e := by unfold ti.row; simp

/-- One batch stands ahead of another. -/
def ti.R (x y : Nat × Bat) : Prop := x.1 < y.1 ∧ x.2.last < y.2.base
theorem ti.walkF_rise {L : List Nat} (hL : ∀ x ∈ L, x < 256) : ∀ (g at' : Nat) (ahead : Int), (∀ x ∈ dec.walkF g L at' ahead, at' ≤ x.1 ∧ ahead < x.2.base) ∧ (dec.walkF g L at' ahead).Pairwise ti.R
  | 0, _, _ => ⟨fun x hx => (by cases hx), .nil⟩
  | g + 1, at', ahead => by
    rw [dec.walkF_succ]
    cases h : dec.first (L.drop at') with
    | none => exact ⟨fun x hx => (by cases hx), .nil⟩
    | some y =>
      obtain ⟨b, u⟩ := y
      unfold dec.walkG
      dsimp only
      split
      · exact ⟨fun x hx => (by cases hx), .nil⟩
      · rename_i hb
        have hi := dec.is_of hL h
        have hm := (Bat.check_ok hi.check).1.2.2.1
        have hlow := hi.low
        obtain ⟨i1, i2⟩ := ti.walkF_rise hL g (at' + u) b.last
        refine ⟨fun x hx => ?_, List.pairwise_cons.2 ⟨fun x hx => ?_, i2⟩⟩
        · rcases List.mem_cons.1 hx with rfl | hx
          · exact ⟨Nat.le_refl _, by show ahead < b.base; omega⟩
          · have := i1 x hx
            exact ⟨by omega, by omega⟩
        · have := i1 x hx
          exact ⟨by show at' < x.1; omega, this.2⟩
theorem ti.chks_off {last : Int} : ∀ (rs : List Rec) (ahead : Int), bat.chks last ahead rs = 0 → ∀ r ∈ rs, ahead < r.off ∧ r.off ≤ last
  | [], _, _, r, hr => by cases hr
  | x :: xs, ahead, h, r, hr => by
    rw [bat.chks_cons] at h
    split at h
    · cases h
    · rename_i h1
      split at h
      · rename_i h2; exact absurd h h2
      · rcases List.mem_cons.1 hr with rfl | hr
        · omega
        · have := ti.chks_off xs x.off h r hr
          omega
theorem ti.check_off {b : Bat} (h : b.check = 0) : ∀ r ∈ b.recs, b.base ≤ r.off ∧ r.off ≤ b.last := by
  have hc : bat.chks b.last (b.base - 1) b.recs = 0 := by
    unfold Bat.check at h
    by_cases hm : b.may
    · rw [if_neg (fun h => h hm)] at h
      split at h
      · cases h
      · split at h
        · rename_i h2; exact absurd h h2
        · rename_i h1 h2; omega
    · rw [if_pos hm] at h
      cases h
  intro r hr
  have := ti.chks_off _ _ hc r hr
  omega
theorem ti.fold_max (M : Int) : ∀ (l : List Rec) (m : Int), m ≤ l.foldl (fun m r => max m r.time) m ∧ (∀ r ∈ l, r.time ≤ l.foldl (fun m r => max m r.time) m) ∧ (m ≤ M → (∀ r ∈ l, r.time ≤ M) → l.foldl (fun m r => max m r.time) m ≤ M)
  | [], m => ⟨Int.le_refl _, fun r hr => (by cases hr), fun h _ => h⟩
  | x :: l, m => by
    obtain ⟨h1, h2, h3⟩ := ti.fold_max M l (max m x.time)
    rw [List.foldl_cons]
    refine ⟨by omega, fun r hr => ?_, fun h hx => h3 ?_ fun r hr => hx r (List.mem_cons_of_mem _ hr)⟩
    · rcases List.mem_cons.1 hr with rfl | hr
      · omega
      · exact h2 r hr
    · have := hx x (List.mem_cons_self ..)
      omega
theorem ti.most_bd {rs : List Rec} (h : ∀ r ∈ rs, 0 ≤ r.time ∧ r.time ≤ 1125899906842624) : (0 ≤ Bat.mostT rs ∧ Bat.mostT rs ≤ 1125899906842624) ∧ ∀ r ∈ rs, r.time ≤ Bat.mostT rs := by
  have hf : 0 ≤ Bat.first rs ∧ Bat.first rs ≤ 1125899906842624 := by
    cases rs with
    | nil => exact ⟨Int.le_refl _, by show (0 : Int) ≤ _; omega⟩
    | cons x l => exact h x (List.mem_cons_self ..)
  obtain ⟨h1, h2, h3⟩ := ti.fold_max 1125899906842624 rs (Bat.first rs)
  unfold Bat.mostT Bat.mostTo
  rw [List.take_of_length_le (Nat.le_refl _)]
  exact ⟨⟨by omega, h3 hf.2 fun r hr => (h r hr).2⟩, h2⟩
/-- What is so of a batch of a walk. -/
def ti.Ok (x : Nat × Bat) : Prop := 0 ≤ x.2.base ∧ x.2.base ≤ x.2.last ∧ x.2.last ≤ 4611686018427387904 ∧ ∀ r ∈ x.2.recs, (0 ≤ r.time ∧ r.time ≤ 1125899906842624) ∧ x.2.base ≤ r.off ∧ r.off ≤ x.2.last
theorem ti.ok_of {b : Bat} (n : Nat) (h : b.check = 0) : ti.Ok (n, b) := by
  obtain ⟨hm, -, hr, -⟩ := Bat.check_ok h
  exact ⟨hm.1, hm.2.2.1, hm.2.2.2.1, fun r h2 => ⟨⟨(hr r h2).1, (hr r h2).2.1⟩, ti.check_off h r h2⟩⟩
/-- What is so of the index so far. -/
structure ti.Inv (pre : List (Nat × Bat)) (s : Int × Int × List (Int × Int)) : Prop where
  most : 0 ≤ s.2.1 ∧ s.2.1 ≤ 1125899906842624
  times : ∀ x ∈ pre, ∀ r ∈ x.2.recs, r.time ≤ s.2.1
  ents : ∀ e ∈ s.2.2, 0 ≤ e.1 ∧ e.1 ≤ s.2.1 ∧ (∃ y ∈ pre, e.2 = y.2.base) ∧ ∀ x ∈ pre, x.2.last < e.2 → ∀ r ∈ x.2.recs, r.time ≤ e.1
  asc : s.2.2.Pairwise (fun a b => a.1 ≤ b.1 ∧ a.2 < b.2)
theorem ti.Inv.step {mm : Int} {pre : List (Nat × Bat)} {s : Int × Int × List (Int × Int)} {x : Nat × Bat} (h : ti.Inv pre s) (hx : ti.Ok x) (hp : ∀ y ∈ pre, ti.Ok y ∧ ti.R y x) : ti.Inv (pre ++ [x]) (ti.step mm s x) := by
  obtain ⟨⟨m1, m2⟩, m3⟩ := ti.most_bd fun r hr => (hx.2.2.2 r hr).1
  obtain ⟨hm1, hm2⟩ := h.most
  have hold : ∀ e ∈ s.2.2, 0 ≤ e.1 ∧ e.1 ≤ max s.2.1 (Bat.mostT x.2.recs) ∧ (∃ y ∈ pre ++ [x], e.2 = y.2.base) ∧ ∀ y ∈ pre ++ [x], y.2.last < e.2 → ∀ r ∈ y.2.recs, r.time ≤ e.1 := fun e he => by
    obtain ⟨h1, h2, ⟨y, hy, hye⟩, h4⟩ := h.ents e he
    refine ⟨h1, by omega, ⟨y, List.mem_append_left _ hy, hye⟩, fun z hz hlt r hr => ?_⟩
    rcases List.mem_append.1 hz with hz | hz
    · exact h4 z hz hlt r hr
    · obtain rfl : z = x := by simpa using hz
      have a1 := (hp y hy).1.2.1
      have a2 := (hp y hy).2.2
      have a3 := hx.2.1
      omega
  have htm : ∀ y ∈ pre ++ [x], ∀ r ∈ y.2.recs, r.time ≤ max s.2.1 (Bat.mostT x.2.recs) := fun y hy r hr => by
    rcases List.mem_append.1 hy with hy | hy
    · have := h.times y hy r hr
      omega
    · obtain rfl : y = x := by simpa using hy
      have := m3 r hr
      omega
  unfold ti.step
  by_cases hd : mm ≤ (x.1 : Int) - s.1
  · rw [if_pos hd, if_pos hd]
    refine ⟨⟨by show 0 ≤ max s.2.1 _; omega, by show max s.2.1 _ ≤ _; omega⟩, htm, fun e he => ?_, ?_⟩
    · rcases List.mem_append.1 he with he | he
      · exact hold e he
      · obtain rfl : e = (s.2.1, x.2.base) := by simpa using he
        refine ⟨hm1, by show s.2.1 ≤ max s.2.1 _; omega, ⟨x, by simp, rfl⟩, fun z hz hlt r hr => ?_⟩
        rcases List.mem_append.1 hz with hz | hz
        · exact h.times z hz r hr
        · obtain rfl : z = x := by simpa using hz
          have a3 := hx.2.1
          dsimp only at hlt
          omega
    · refine List.pairwise_append.2 ⟨h.asc, List.pairwise_singleton _ _, fun a ha b hb => ?_⟩
      obtain rfl : b = (s.2.1, x.2.base) := by simpa using hb
      obtain ⟨-, h2, ⟨y, hy, hye⟩, -⟩ := h.ents a ha
      have a1 := (hp y hy).1.2.1
      have a2 := (hp y hy).2.2
      exact ⟨h2, by show a.2 < x.2.base; omega⟩
  · rw [if_neg hd, if_neg hd]
    exact ⟨⟨by show 0 ≤ max s.2.1 _; omega, by show max s.2.1 _ ≤ _; omega⟩, htm, hold, h.asc⟩
theorem ti.inv_fold (mm : Int) : ∀ (l pre : List (Nat × Bat)) (s : Int × Int × List (Int × Int)), ti.Inv pre s → (pre ++ l).Pairwise ti.R → (∀ x ∈ pre ++ l, ti.Ok x) → ti.Inv (pre ++ l) (l.foldl (ti.step mm) s)
  | [], pre, s, h, _, _ => by rw [List.append_nil]; exact h
  | x :: l, pre, s, h, hp, ho => by
    have e : pre ++ x :: l = (pre ++ [x]) ++ l := by simp
    have := ti.inv_fold mm l (pre ++ [x]) (ti.step mm s x) (h.step (ho x (by simp)) fun y hy => ⟨ho y (by simp [hy]), (List.pairwise_append.1 hp).2.2 y hy x (by simp)⟩) (by rw [← e]; exact hp) (by rw [← e]; exact ho)
    rw [e]
    exact this
theorem ti.walk_ok {L : List Nat} (hL : ∀ x ∈ L, x < 256) : ∀ x ∈ dec.walk L, ti.Ok x := fun x hx => by
  obtain ⟨u, his⟩ := dec.walk_is hL x hx
  exact ti.ok_of x.1 his.check
theorem ti.walk_rise {L : List Nat} (hL : ∀ x ∈ L, x < 256) : (dec.walk L).Pairwise ti.R := (ti.walkF_rise hL _ _ _).2
theorem ti.inv_walk {L : List Nat} (hL : ∀ x ∈ L, x < 256) (mm : Int) : ti.Inv (dec.walk L) (ti.st mm (dec.walk L)) :=
  ti.inv_fold mm (dec.walk L) [] (0, 0, []) ⟨⟨by decide, by decide⟩, fun x hx => (by cases hx), fun e he => (by cases he), .nil⟩ (ti.walk_rise hL) (ti.walk_ok hL)
/-- The index, as entries. -/
def ti.num (E : List (Int × Int)) (i j : Nat) : Int :=
  match E[i]? with
  | none => 0
  | some e => if j = 0 then e.1 else e.2
theorem ti.num_at {E : List (Int × Int)} {i : Nat} {e : Int × Int} (h : E[i]? = some e) : ti.num E i 0 = e.1 ∧ ti.num E i 1 = e.2 := by
  unfold ti.num
  rw [h]
  exact ⟨rfl, rfl⟩
theorem ti.at2 {w : World} {A : Option Addr} {E : List (Int × Int)} (h : At w A (E.length * 2) (fun j => (ti.row E).getD j undef)) : At2 w A E.length (ti.num E) := by
  refine ⟨_, h, fun i j hi hj => ?_⟩
  obtain ⟨x, hx⟩ : ∃ x, E[i]? = some x := ⟨_, List.getElem?_eq_getElem hi⟩
  have hg := flat_get ti.cell2 2 (fun _ => rfl) E i j x hx hj
  obtain ⟨h0, h1⟩ := ti.num_at hx
  show ((E.map ti.cell2).flatten).getD (i * 2 + j) undef = _
  rw [hg]
  match j, hj with
  | 0, _ => rw [h0]; rfl
  | 1, _ => rw [h1]; rfl

open Go.RowKit Go.Shelf
attribute [local go_sem] Oper.semAt_some

/-- What lies in the boxes. -/
structure ti.B (z : Nat) (w : World) (every : Int) (s : Int × Int × List (Int × Int)) (v : Value) (W : World) : Prop where
  box : Boxed W (z + 1) 58 v
  own : W.ownsRow (z + 5) 66 2 v s.2.2.length (ti.row s.2.2)
  last : Boxed W (z + 2) 3 (.int .i64 s.1)
  most : Boxed W (z + 3) 3 (.int .i64 s.2.1)
  ev : Boxed W z 3 (.int .i64 every)
  bel : Below z w W
def ti.I (z : Nat) (w : World) (every mm : Int) (pre : List WkX) (W : World) : Prop :=
  (∃ v, ti.B z w every (ti.st mm (pre.map Prod.fst)) v W) ∧ ∀ x ∈ pre.map Prod.fst, x.1 ≤ 1000000
theorem ti.B.grow {z : Nat} {w : World} {every : Int} {s : Int × Int × List (Int × Int)} {v : Value} {W W' : World} {row : Option Nat} (h : ti.B z w every s v W) (hz : z ≤ w.heap.size) (hg : W.grownBy W' row) (hr : ∀ r, row = some r → z ≤ r ∧ ∃ o : Obj, W.heap[r]? = some o ∧ o.isCells = false) : ti.B z w every s v W' := by
  have hr' : ∀ r, row = some r → ∃ o : Obj, W.heap[r]? = some o ∧ o.isCells = false := fun r e => (hr r e).2
  have hbx : ∀ {b : Nat} {t : TypeId} {v : Value}, Boxed W b t v → Boxed W' b t v := fun {b t v} h => h.kept hg fun e => by
    obtain ⟨o, ho, hc⟩ := hr' b e.symm
    rw [show W.heap[b]? = _ from h] at ho
    cases ho
    cases hc
  have hrw : ∀ {b s n : Nat} {e : TypeId} {v : Value} {xs : List Value}, W.ownsRow b e s v n xs → W'.ownsRow b e s v n xs := fun {b s n e v xs} h => by
    refine h.kept hg ?_
    rcases h.2 with ⟨rfl, _⟩ | ⟨g, cap, cur, rfl, _, hgb, _⟩
    · exact .inl rfl
    · refine .inr fun e => ?_
      obtain ⟨o, ho, hc⟩ := hr' g e.symm
      rw [hgb] at ho
      cases ho
      cases hc
  exact ⟨hbx h.box, hrw h.own, hbx h.last, hbx h.most, hbx h.ev, h.bel.grown hg (Nat.le_trans hz h.bel.size) fun k e => (hr k e).1⟩
theorem ti.I_own (z : Nat) (w : World) (every mm : Int) (B : Nat) (hz : z ≤ w.heap.size) (hB : z ≤ B) : OwnFrom B (ti.I z w every mm) := fun pre W W' row h hg hr => by
  obtain ⟨⟨v, h1⟩, h2⟩ := h
  exact ⟨⟨v, h1.grow hz hg fun r e => ⟨Nat.le_trans hB (hr r e).1, (hr r e).2⟩⟩, h2⟩
theorem ti.B.below {z : Nat} {w : World} {every : Int} {s : Int × Int × List (Int × Int)} {v : Value} {W W' : World} (h : ti.B z w every s v W) (hz : z ≤ w.heap.size) (hb : Below W.heap.size W W') : ti.B z w every s v W' := h.grow hz (grown_by hb) fun r e => by cases e
/-- The greatest time is set. -/
theorem ti.B.setMost {z : Nat} {w : World} {every a m m' : Int} {E : List (Int × Int)} {v : Value} {W : World} (h : ti.B z w every (a, m, E) v W) : ti.B z w every (a, m', E) v (W.setCell ⟨z + 3, 0, none⟩ (.int .i64 m')) :=
  ⟨h.box.other (by omega) _, h.own.kept (grownBy_setCell' W (z + 3) (.int .i64 m')) (.inr (own_ne h.own (by omega)).symm), h.last.other (by omega) _, h.most.set _, h.ev.other (by omega) _, h.bel.setCell (p := ⟨z + 3, 0, none⟩) (by show z ≤ z + 3; omega) _⟩
/-- An entry is gathered. -/
theorem ti.B.gather {z : Nat} {w : World} {every a m at' : Int} {E : List (Int × Int)} {e : Int × Int} {v v' : Value} {W w2 : World} {t1 : Obj} (h : ti.B z w every (a, m, E) v W) (hzw : z ≤ w.heap.size)
    (hown : w2.ownsRow (z + 5) 66 2 v' (E.length + 1) (ti.row E ++ ti.cell2 e)) (hgrow : (W.alloc t1).grownBy w2 v.ownBlock) :
    ti.B z w every (at', m, E ++ [e]) v' ((w2.setCell ⟨z + 1, 0, none⟩ v').setCell ⟨z + 2, 0, none⟩ (.int .i64 at')) ∧
      Chg W ((w2.setCell ⟨z + 1, 0, none⟩ v').setCell ⟨z + 2, 0, none⟩ (.int .i64 at')) (fun k => k = z + 1 ∨ k = z + 2 ∨ k = z + 3 ∨ v.ownBlock = some k) := by
  have hzW : z ≤ W.heap.size := Nat.le_trans hzw h.bel.size
  obtain ⟨q1, q2, q3, q4, q5, q6⟩ := box_appended (n₀ := z) h.box (by omega) (by omega) h.own hzW hown hgrow
  have bl1 := q6 _ _ _ (by omega) (by omega) h.last
  have bm1 := q6 _ _ _ (by omega) (by omega) h.most
  have be1 := q6 _ _ _ (by omega) (by omega) h.ev
  have c1 : Chg W (w2.setCell ⟨z + 1, 0, none⟩ v') (fun k => k = z + 1 ∨ k = z + 2 ∨ k = z + 3 ∨ v.ownBlock = some k) :=
    ((Chg.alloc W t1 (fun k => k = z + 1 ∨ k = z + 2 ∨ k = z + 3 ∨ v.ownBlock = some k)).trans (Chg.grown hgrow) fun k _ h => .inr (.inr (.inr h))).trans (Chg.setCell w2 (z + 1) 0 v') fun k _ h => .inl h
  have hz1 := q5.size
  generalize w2.setCell ⟨z + 1, 0, none⟩ v' = W1 at *
  have ra2 := q3.kept (grownBy_setCell' W1 (z + 2) (.int .i64 at')) (.inr (own_ne q3 (by omega)).symm)
  have c2 := c1.trans (Chg.setCell W1 (z + 2) 0 (.int .i64 at')) fun k _ h => .inr (.inl h)
  have hbel : Below z W (W1.setCell ⟨z + 2, 0, none⟩ (.int .i64 at')) := q5.setCell (p := ⟨z + 2, 0, none⟩) (by show z ≤ z + 2; omega) _
  refine ⟨⟨q2.other (by omega) _, ?_, bl1.set _, bm1.other (by omega) _, be1.other (by omega) _, h.bel.trans hbel⟩, c2⟩
  show (W1.setCell ⟨z + 2, 0, none⟩ (.int .i64 at')).ownsRow (z + 5) 66 2 v' (E ++ [e]).length (ti.row (E ++ [e]))
  rw [ti.row_snoc, List.length_append]
  exact ra2
/-- What a round keeps. -/
theorem ti.B.keeps {z : Nat} {w : World} {every : Int} {s s' : Int × Int × List (Int × Int)} {v v' : Value} {W V : World} (B : Nat) (h : ti.B z w every s v W) (h' : ti.B z w every s' v' V) (c : Chg W V (fun k => k = z + 1 ∨ k = z + 2 ∨ k = z + 3 ∨ v.ownBlock = some k))
    (hl : ∀ k, v'.ownBlock = some k → v.ownBlock = some k ∨ W.heap.size ≤ k) : KeepsFrom B W V ∧ Kept [z + 1, z + 2, z + 3] W V := by
  have hbs : ∀ b ∈ [z + 1, z + 2, z + 3], b = z + 1 ∨ b = z + 2 ∨ b = z + 3 := fun b hb => by simpa using hb
  refine ⟨keeps_chg c fun k hk => ?_, Kept.boxes c (fun k hk => ?_) fun b hb => ?_⟩
  · rcases hk with rfl | rfl | rfl | hk
    · exact .of_boxed h.box
    · exact .of_boxed h.last
    · exact .of_boxed h.most
    · exact own_cells h.own hk
  · rcases hk with rfl | rfl | rfl | hk
    · exact .inl (by simp)
    · exact .inl (by simp)
    · exact .inl (by simp)
    · exact .inr ⟨z + 1, by simp, by rw [boxOf_boxed h.box]; exact hk⟩
  · rcases hbs b hb with rfl | rfl | rfl
    · refine ⟨.of_boxed h'.box, fun k e => ?_⟩
      rw [boxOf_boxed h'.box] at e
      refine ⟨(h'.own.lt k e).2, ?_⟩
      rcases hl k e with h1 | h1
      · exact .inl ⟨z + 1, by simp, by rw [boxOf_boxed h.box]; exact h1⟩
      · exact .inr h1
    · exact ⟨.of_boxed h'.last, fun k e => by rw [boxOf_boxed h'.last] at e; cases e⟩
    · exact ⟨.of_boxed h'.most, fun k e => by rw [boxOf_boxed h'.most] at e; cases e⟩

theorem ti.due_any (last at' every : Int) (w : World) (h1 : 0 ≤ last ∧ last ≤ 1000000) (h2 : 0 ≤ at' ∧ at' ≤ 1000000) :
    Calls Try.prog 40 #[.int .i64 last, .int .i64 at', .int .i64 every] w fun e w' => e = .returned (.bool (decide (max every 1 ≤ at' - last))) ∧ w = w' := by
  obtain ⟨a1, a2⟩ := h1
  obtain ⟨b1, b2⟩ := h2
  by_cases h : every ≤ 1
  · have hm : max every 1 = 1 := by omega
    rw [hm]
    have HM := Lib.hid hm; clear hm
    go_enter Try.func40, Try.ntmps40
    go_wp2
    all_goals
      go_ret
      exact ⟨ret_bool (by first | (simp; done) | (simp; omega)), rfl⟩
  · have hm : max every 1 = every := by omega
    rw [hm]
    have HM := Lib.hid hm; clear hm
    go_enter Try.func40, Try.ntmps40
    go_wp2
    all_goals
      go_ret
      exact ⟨ret_bool (by first | (simp; done) | (simp; omega)), rfl⟩
/-- What a round leaves. -/
theorem ti.round {z : Nat} {w : World} {every mm a mo a1 m1 : Int} {E E1 : List (Int × Int)} {pre : List WkX} {x : WkX} {v v1 : Value} {W V1 V2 : World} (B : Nat) (hz : z ≤ w.heap.size) (hS : ti.st mm (pre.map Prod.fst) = (a, mo, E)) (hle : ∀ y ∈ pre.map Prod.fst, y.1 ≤ 1000000) (hx : x.1.1 ≤ 1000000)
    (hstep : ti.step mm (a, mo, E) x.1 = (a1, m1, E1)) (h : ti.B z w every (a, mo, E) v W) (h1 : ti.B z w every (a1, mo, E1) v1 V1) (c1 : Chg W V1 (fun k => k = z + 1 ∨ k = z + 2 ∨ k = z + 3 ∨ v.ownBlock = some k)) (hl : ∀ k, v1.ownBlock = some k → v.ownBlock = some k ∨ W.heap.size ≤ k) (hb : Below V1.heap.size V1 V2) :
    KeepsFrom B W (V2.setCell ⟨z + 3, 0, none⟩ (.int .i64 m1)) ∧ Kept [z + 1, z + 2, z + 3] W (V2.setCell ⟨z + 3, 0, none⟩ (.int .i64 m1)) ∧ ti.I z w every mm (pre ++ [x]) (V2.setCell ⟨z + 3, 0, none⟩ (.int .i64 m1)) := by
  have h3 := (h1.below hz hb).setMost (m' := m1)
  have hmp : (pre ++ [x]).map Prod.fst = pre.map Prod.fst ++ [x.1] := by simp
  obtain ⟨k1, k2⟩ := h.keeps B h3 ((c1.trans (chg_of (P := fun _ => False) hb) fun _ _ hh => hh.elim).trans (Chg.setCell V2 (z + 3) 0 (.int .i64 m1)) fun k _ hk => .inr (.inr (.inl hk))) hl
  refine ⟨k1, k2, ⟨v1, ?_⟩, fun y hy => ?_⟩
  · rw [hmp, ti.st_snoc, hS, hstep]
    exact h3
  · rw [hmp] at hy
    rcases List.mem_append.1 hy with hy | hy
    · exact hle y hy
    · obtain rfl : y = x.1 := by simpa using hy
      exact hx

/-- What Build answers. -/
def ti.Post (L : List Nat) (every : Int) (w : World) (e : Ending) (w' : World) : Prop :=
  ∃ A c, e = .returned (.slice A (ti.st (max every 1) (dec.walk L)).2.2.length c) ∧ (ti.st (max every 1) (dec.walk L)).2.2.length ≤ c ∧ At w' A ((ti.st (max every 1) (dec.walk L)).2.2.length * 2) (fun j => (ti.row (ti.st (max every 1) (dec.walk L)).2.2).getD j undef) ∧ Below w.heap.size w w'

set_option maxRecDepth 100000 in
set_option maxHeartbeats 4000000 in
theorem ti.build_any (A : Option Addr) (m c : Nat) (L : List Nat) (every : Int) (w : World) (hL : ∀ x ∈ L, x < 256) (hlen : L.length = m) (hmc : m ≤ c) (hc : c ≤ maxLen) (hm : m ≤ 1000000) (hat : At w A m (byteAt L)) :
    Calls Try.prog 25 #[.slice A m c, .int .i64 every] w (ti.Post L every w) := by
  refine (callsIn_wide (n := 5)).1 ?_
  have h1 : 1 ≤ 5 := by omega
  refine callsIn_of_wp_marks Try.func25 rfl trivial ?_ rfl
  simp only [Try.ntmps25, List.size_toArray, List.length_cons, List.length_nil, Nat.reduceAdd, Nat.reduceSub, Array.replicate_succ, Array.replicate_zero, List.push_toArray, List.append_toArray, List.nil_append, List.cons_append]
  have HAT := Lib.hid hat; clear hat
  have HL := Lib.hid hL; clear hL
  have HLEN := Lib.hid hlen; clear hlen
  gi_wp2_with fail
  obtain ⟨w0, hw0⟩ : ∃ w0, w0 = (((w.alloc (.cells #[.int .i64 every] 3)).alloc (.cells #[.slice none 0 0] 58)).alloc (.cells #[.int .i64 0] 3)).alloc (.cells #[.int .i64 0] 3) := ⟨_, rfl⟩
  rw [← hw0]
  have hB0 : Below w.heap.size w w0 := by rw [hw0]; exact ((((Below.refl _ w).alloc (Nat.le_refl _) _).alloc (by simp) _).alloc (by simp; omega) _).alloc (by simp; omega) _
  have bE : Boxed w0 w.heap.size 3 (.int .i64 every) := by rw [hw0]; exact (((Boxed.new w _ _).alloc _).alloc _).alloc _
  have bL : Boxed w0 (w.heap.size + 1) 58 (.slice none 0 0) := by
    rw [hw0]
    have h := Boxed.new (w.alloc (.cells #[.int .i64 every] 3)) 58 (.slice none 0 0)
    rw [World.size_alloc] at h
    exact (h.alloc _).alloc _
  have bS : Boxed w0 (w.heap.size + 2) 3 (.int .i64 0) := by
    rw [hw0]
    have h := Boxed.new ((w.alloc (.cells #[.int .i64 every] 3)).alloc (.cells #[.slice none 0 0] 58)) 3 (.int .i64 0)
    rw [World.size_alloc, World.size_alloc] at h
    exact h.alloc _
  have bM : Boxed w0 (w.heap.size + 3) 3 (.int .i64 0) := by
    rw [hw0]
    have h := Boxed.new (((w.alloc (.cells #[.int .i64 every] 3)).alloc (.cells #[.slice none 0 0] 58)).alloc (.cells #[.int .i64 0] 3)) 3 (.int .i64 0)
    rw [World.size_alloc, World.size_alloc, World.size_alloc] at h
    exact h
  have hz0 : w0.heap.size = w.heap.size + 4 := by rw [hw0]; simp
  clear hw0
  refine ⟨trivial, ?_⟩
  refine (callsIn_wide.2 (bat.walk_any A m c w0)).mono ?_
  rintro e w1 ⟨rfl, hw1⟩
  rw [hz0]
  have hb1 : Below w0.heap.size w0 w1 := by rw [hw1]; exact (Below.refl _ _).alloc (Nat.le_refl _) _
  have hkp : Blk w1 (w.heap.size + 4) 22 #[.slice A m c] := by
    rw [hw1]
    have h := Blk.new w0 22 #[.slice A m c]
    rwa [hz0] at h
  have hz1 : w1.heap.size = w.heap.size + 5 := by rw [hw1, World.size_alloc, hz0]
  clear hw1
  have hbx : ∀ {b : Nat} {t : TypeId} {v : Value}, Boxed w0 b t v → Boxed w1 b t v := fun h => h.kept (grown_by hb1) (by simp)
  have bE1 := hbx bE
  have bL1 := hbx bL
  have bS1 := hbx bS
  have bM1 := hbx bM
  have hB1 : Below w.heap.size w w1 := hB0.trans (hb1.mono hB0.size)
  have hbs : ∀ b ∈ [w.heap.size + 1, w.heap.size + 2, w.heap.size + 3], b = w.heap.size + 1 ∨ b = w.heap.size + 2 ∨ b = w.heap.size + 3 := fun b hb => by simpa using hb
  have hnb : ∀ b ∈ [w.heap.size + 1, w.heap.size + 2, w.heap.size + 3], boxOf w1 b = none := fun b hb => by
    rcases hbs b hb with rfl | rfl | rfl
    · rw [boxOf_boxed bL1]; rfl
    · rw [boxOf_boxed bS1]; rfl
    · rw [boxOf_boxed bM1]; rfl
  have hin : InB [w.heap.size + 1, w.heap.size + 2, w.heap.size + 3] w1 := fun b hb => ⟨by
    rcases hbs b hb with rfl | rfl | rfl
    · exact .of_boxed bL1
    · exact .of_boxed bS1
    · exact .of_boxed bM1, fun k e => by rw [hnb b hb] at e; cases e⟩
  have hsafe : ∀ k, k ≠ w.heap.size + 1 → k ≠ w.heap.size + 2 → k ≠ w.heap.size + 3 → Safe [w.heap.size + 1, w.heap.size + 2, w.heap.size + 3] w1 k := fun k hk1 hk2 hk3 => ⟨fun h => by
    rcases hbs k h with rfl | rfl | rfl
    · exact hk1 rfl
    · exact hk2 rfl
    · exact hk3 rfl, fun b hb e => by rw [hnb b hb] at e; cases e⟩
  have hsrc : Dep (Safe [w.heap.size + 1, w.heap.size + 2, w.heap.size + 3] w1) w1 (wk.Src (w.heap.size + 4) A m c L) := (Dep.blk hkp (hsafe _ (by omega) (by omega) (by omega))).both (Dep.at' (HAT.out.below hB1 (Nat.le_refl _)) fun hp b off e => by
    obtain ⟨b', off', e', hb', -⟩ := HAT.out hp
    rw [e] at e'
    cases e'
    exact hsafe _ (by omega) (by omega) (by omega))
  have hI0 : ti.B w.heap.size w every (0, 0, []) (.slice none 0 0) w1 := ⟨bL1, World.ownsRow_nil _ _ _ _, bS1, bM1, bE1, hB1⟩
  clear bE bL bS bM hbx hkp hnb hsafe bE1 bL1 bS1 bM1
  obtain ⟨mm, hmm⟩ : ∃ mm, mm = max every 1 := ⟨_, rfl⟩
  have HMM := Lib.hid hmm; clear hmm
  gi_wp2_with fail
  refine for_eachB (F := Fence.wide) (n := 5) rfl h1 (gf := 49) (lb := #[.pointer (some ⟨w.heap.size + 4, 0, none⟩)]) rfl trivial (enters_of Try.func49 (by kernel_rfl) rfl)
    (bat.hands 4 (by omega) (w.heap.size + 4) [w.heap.size + 1, w.heap.size + 2, w.heap.size + 3] A m c L w1 HL.out HLEN.out hmc hc hm hin hsrc) (Below.refl _ _) Kept.trans
    (fun W o h => Kept.alloc o fun b hb => by rcases hbs b hb with rfl | rfl | rfl <;> omega) (fun W l o o' hl ho hcc _ => Kept.put ho hcc fun b hb => by rcases hbs b hb with rfl | rfl | rfl <;> omega) (fun _ => rfl)
    (fun pre W => ti.I w.heap.size w every mm pre W) (fun _ _ _ => False)
    (ti.I_own _ _ _ _ _ (Nat.le_refl _) (by omega)) (fun _ _ _ _ _ h _ _ => h.elim) (wk.R_own _ _ _) (fun _ _ _ _ h _ _ => h) (fun _ _ _ _ h _ _ => h)
    ⟨⟨_, hI0⟩, (fun x hx => by cases hx)⟩ 50 wk.cells
    (fun x g => { tmps := #[.slice A m c, .int .i64 every, undef, .pointer (some ⟨w.heap.size, 0, none⟩), .slice none 0 0, .pointer (some ⟨w.heap.size + 1, 0, none⟩), .pointer (some ⟨w.heap.size + 1 + 1, 0, none⟩), .pointer (some ⟨w.heap.size + 1 + 1 + 1, 0, none⟩), .int .i64 (x.1.1 : Int), .pointer (some ⟨g, 0, none⟩), undef, undef, .slice A m c, .func (.func 49) #[] #[.pointer (some ⟨w.heap.size + 4, 0, none⟩)], .int .i64 (x.1.1 : Int), .agg (wk.cells x), undef, undef, undef, undef, undef, undef, undef, undef, undef, undef, undef, undef, undef, undef, undef, undef, undef, undef, undef, undef, undef], defers := [] }) ?assign ?body ?done ?stop
  case assign =>
    rintro l ⟨⟨at', b⟩, ⟨A2, c2⟩⟩ W K hK
    unfold wk.encs Bat.hval
    unfold wk.cells at hK
    dsimp only at hK ⊢
    gi_wp2
    exact hK
  case body =>
    rintro l pre ⟨⟨at', b⟩, ⟨A2, c2⟩⟩ g W hg1 hg2 hk ⟨⟨v, hI⟩, hle⟩ ⟨hib, hdep, u, his⟩ hlt
    unfold wk.cells at hk ⊢
    dsimp only at hk hdep his ⊢
    have hatm : at' ≤ 1000000 := by
      have h2 := his.fits
      rw [HLEN.out] at h2
      omega
    obtain ⟨hl0, hl1⟩ := ti.st_last mm (pre.map Prod.fst) hle
    have hplen : (ti.st mm (pre.map Prod.fst)).2.2.length ≤ 1000000 := by
      have h1 := ti.st_len mm (pre.map Prod.fst)
      have h2 := dec.walk_len HL.out
      rw [HLEN.out] at h2
      rw [List.length_map] at h1
      omega
    have hS0 : ∃ s, ti.st mm (pre.map Prod.fst) = s := ⟨_, rfl⟩
    obtain ⟨⟨last, mo, E⟩, hS⟩ := hS0
    rw [hS] at hI hl0 hl1 hplen
    dsimp only at hl0 hl1 hplen
    have hdu := ti.due_any last (at' : Int) every W ⟨hl0, hl1⟩ ⟨by omega, by omega⟩
    rw [← HMM.out] at hdu
    have hown0 := hI.own
    dsimp only at hown0
    obtain ⟨en, hen⟩ : ∃ en, en = E.length := ⟨_, rfl⟩
    rw [← hen] at hown0 hplen
    obtain ⟨Aa, ca, rfl, hca, -⟩ := own_at hown0
    have hk0 := hI.keeps (V := W) w1.heap.size hI (Chg.refl _ _) fun k e => .inl e
    have htm : ∀ V, Kept [w.heap.size + 1, w.heap.size + 2, w.heap.size + 3] W V → Calls Try.prog 42 #[b.hval A2 b.recs.length c2] V fun e w' => e = .returned (.tuple #[.int .i64 (Bat.first b.recs), .int .i64 (Bat.mostT b.recs)]) ∧ Below V.heap.size V w' := fun V hV => bat.times_any b A2 c2 V (hdep.kept hV).now
    unfold Bat.hval at htm
    obtain ⟨t0, ht0⟩ : ∃ t0, t0 = Bat.first b.recs := ⟨_, rfl⟩
    obtain ⟨mt, hmt⟩ : ∃ mt, mt = Bat.mostT b.recs := ⟨_, rfl⟩
    rw [← ht0, ← hmt] at htm
    have hgne : (Value.slice Aa en ca).ownBlock ≠ some g := hk.not_row (by decide) hown0
    have hstep : ∀ V1 V2 v1 a1 m1 E1, ti.step mm (last, mo, E) (at', b) = (a1, m1, E1) → ti.B w.heap.size w every (a1, mo, E1) v1 V1 → Chg W V1 (fun k => k = w.heap.size + 1 ∨ k = w.heap.size + 2 ∨ k = w.heap.size + 3 ∨ (Value.slice Aa en ca).ownBlock = some k) → (∀ k, v1.ownBlock = some k → (Value.slice Aa en ca).ownBlock = some k ∨ W.heap.size ≤ k) → Below V1.heap.size V1 V2 → _ := fun V1 V2 v1 a1 m1 E1 q1 q2 q3 q4 q5 => ti.round (x := ((at', b), (A2, c2))) w1.heap.size (Nat.le_refl _) hS hle hatm q1 hI q2 q3 q4 q5
    unfold ti.step at hstep
    rw [← hmt] at hstep
    dsimp only at hstep
    have HSTEP := Lib.hid hstep; clear hstep
    have HTM := Lib.hid htm; clear htm
    have HI := Lib.hid hI
    have HO := Lib.hid hown0; clear hown0
    have HEN := Lib.hid hen; clear hen
    have HK0 := Lib.hid hk0.2; clear hk0
    have HDU := Lib.hid hdu; clear hdu
    have hzW : w.heap.size ≤ W.heap.size := hI.bel.size
    have cA := hI.box.cell
    have cL : W.cell? ⟨w.heap.size + 1 + 1, 0, none⟩ = some (.int .i64 last) := hI.last.cell
    have cM : W.cell? ⟨w.heap.size + 1 + 1 + 1, 0, none⟩ = some (.int .i64 mo) := hI.most.cell
    have cE := hI.ev.cell
    have g0 : W.cell? ⟨g, 0, none⟩ = some (.int .i64 b.base) := hk.cell 0 rfl
    have g1 : W.cell? ⟨g, 1, none⟩ = some (.int .i64 b.last) := hk.cell 1 rfl
    have g2 : W.cell? ⟨g, 2, none⟩ = some (.int .i64 b.prod) := hk.cell 2 rfl
    have g3 : W.cell? ⟨g, 3, none⟩ = some (.int .i64 b.epoch) := hk.cell 3 rfl
    have g4 : W.cell? ⟨g, 4, none⟩ = some (.int .i64 b.seq) := hk.cell 4 rfl
    have g5 : W.cell? ⟨g, 5, none⟩ = some (.slice A2 b.recs.length c2) := hk.cell 5 rfl
    have HK := Lib.hid hk; clear hk
    clear hI hle hS hib hdep his ht0 hmt
    obtain ⟨du, hdu⟩ : ∃ du, du = decide (mm ≤ (at' : Int) - last) := ⟨_, rfl⟩
    rw [← hdu] at HDU
    have HD := Lib.hid hdu; clear hdu
    gi_wp2_with fail
    refine ⟨trivial, ?_⟩
    refine (CallsIn.inRound l (callsIn_wide.2 HDU.out)).mono ?_
    rintro e W2 ⟨rfl, rfl⟩
    cases du with
    | false =>
      have hno : ¬ mm ≤ (at' : Int) - last := of_decide_eq_false HD.out.symm
      have HNO := Lib.hid hno; clear hno
      gi_wp2_with fail
      refine ⟨trivial, ?_⟩
      refine (CallsIn.inRound l (callsIn_wide.2 (HTM.out W HK0.out))).mono ?_
      rintro e W2 ⟨rfl, hb2⟩
      clear g0 g1 g2 g3 g4 g5 cA cL cM cE
      have hB2 := HI.out.below (Nat.le_refl _) hb2
      have cM : W2.cell? ⟨w.heap.size + 1 + 1 + 1, 0, none⟩ = some (.int .i64 mo) := hB2.most.cell
      have fM : W2.frozen? ⟨w.heap.size + 1 + 1 + 1, 0, none⟩ = false := hB2.most.frozen
      clear hB2
      have hfin := fun m1 q => HSTEP.out W W2 _ last m1 E q HI.out (Chg.refl _ _) (fun k e => .inl e) hb2
      rw [if_neg (show ¬ mm ≤ (at' : Int) - last by have := HNO.out; omega), if_neg (show ¬ mm ≤ (at' : Int) - last by have := HNO.out; omega)] at hfin
      have HFIN := Lib.hid hfin; clear hfin hb2
      by_cases hmx : mo < mt
      · have HMX := Lib.hid (show max mo mt = mt by omega)
        gi_wp2_with fail
        exact HFIN.out mt (by rw [HMX.out])
      · have hmx2 : mt ≤ mo := by omega
        have HMX := Lib.hid (show max mo mt = mo by omega)
        gi_wp2_with fail
        exact HFIN.out mo (by rw [HMX.out])
    | true =>
      have hyes : mm ≤ (at' : Int) - last := of_decide_eq_true HD.out.symm
      have HYES := Lib.hid hyes; clear hyes
      obtain ⟨i0, hi, hz0, hz1', hz2⟩ := info_parts ti.infoEnt
      have HI0 := Lib.hid (And.intro hi (And.intro hz0 (And.intro hz1' hz2))); clear hi hz0 hz1' hz2
      have hbaW : w.heap.size + 5 ≤ W.heap.size := by omega
      gi_wp2_with (gi_at_builtin; go_loud (refine wpListIn_append_own_at _ rfl (.tmp 20) (.tmp 25) 58 rfl (w.heap.size + 5) 66 i0 _ 2 16 Try.underlying58 HI0.out.1 HI0.out.2.1 HI0.out.2.2.1 HI0.out.2.2.2 rfl (by decide) _ en _ rfl (HO.out.alloc _) ⟨W.heap.size, 0, none⟩ 1 1 [.int .i64 mo, .int .i64 b.base] rfl rfl (cells_new W [.int .i64 mo, .int .i64 b.base] _ _ rfl) (by simp [Value.oneCell']) (by unfold maxLen; omega) (by omega) (by simp; omega) ?_); intro v1 w2 hown1 hgrow1 _ hl2; obtain ⟨g1', cap1, hv1⟩ := ownsRow_succ hown1; subst hv1; have hgt := HI.out.gather (at' := (at' : Int)) (e := (mo, b.base)) (Nat.le_refl _) (by rw [← HEN.out]; exact hown1) hgrow1; have hne1 : some (w.heap.size + 1) ≠ (Value.slice Aa en ca).ownBlock := own_ne HO.out (by omega); have hne2 : some (w.heap.size + 2) ≠ (Value.slice Aa en ca).ownBlock := own_ne HO.out (by omega); have hb2 := (HI.out.box.alloc _).kept hgrow1 hne1; have hb3 := ((HI.out.last.alloc _).kept hgrow1 hne2).other (show w.heap.size + 2 ≠ w.heap.size + 1 by omega) (.slice (some ⟨g1', 0, none⟩) (en + 1) cap1); have e1 := hb2.cell; have f1 := hb2.frozen; have e2 : (w2.setCell ⟨w.heap.size + 1, 0, none⟩ (.slice (some ⟨g1', 0, none⟩) (en + 1) cap1)).cell? ⟨w.heap.size + 1 + 1, 0, none⟩ = some (.int .i64 last) := hb3.cell; have f2 : (w2.setCell ⟨w.heap.size + 1, 0, none⟩ (.slice (some ⟨g1', 0, none⟩) (en + 1) cap1)).frozen? ⟨w.heap.size + 1 + 1, 0, none⟩ = false := hb3.frozen; have hkV := hgt.2.blk HK.out (fun hh => by (rcases hh with hh | hh | hh | hh); (all_goals first | exact hgne hh | omega)); have y0 : ((w2.setCell ⟨w.heap.size + 1, 0, none⟩ (.slice (some ⟨g1', 0, none⟩) (en + 1) cap1)).setCell ⟨w.heap.size + 1 + 1, 0, none⟩ (.int .i64 (at' : Int))).cell? ⟨g, 0, none⟩ = some (.int .i64 b.base) := hkV.cell 0 rfl; have y1 : ((w2.setCell ⟨w.heap.size + 1, 0, none⟩ (.slice (some ⟨g1', 0, none⟩) (en + 1) cap1)).setCell ⟨w.heap.size + 1 + 1, 0, none⟩ (.int .i64 (at' : Int))).cell? ⟨g, 1, none⟩ = some (.int .i64 b.last) := hkV.cell 1 rfl; have y2 : ((w2.setCell ⟨w.heap.size + 1, 0, none⟩ (.slice (some ⟨g1', 0, none⟩) (en + 1) cap1)).setCell ⟨w.heap.size + 1 + 1, 0, none⟩ (.int .i64 (at' : Int))).cell? ⟨g, 2, none⟩ = some (.int .i64 b.prod) := hkV.cell 2 rfl; have y3 : ((w2.setCell ⟨w.heap.size + 1, 0, none⟩ (.slice (some ⟨g1', 0, none⟩) (en + 1) cap1)).setCell ⟨w.heap.size + 1 + 1, 0, none⟩ (.int .i64 (at' : Int))).cell? ⟨g, 3, none⟩ = some (.int .i64 b.epoch) := hkV.cell 3 rfl; have y4 : ((w2.setCell ⟨w.heap.size + 1, 0, none⟩ (.slice (some ⟨g1', 0, none⟩) (en + 1) cap1)).setCell ⟨w.heap.size + 1 + 1, 0, none⟩ (.int .i64 (at' : Int))).cell? ⟨g, 4, none⟩ = some (.int .i64 b.seq) := hkV.cell 4 rfl; have y5 : ((w2.setCell ⟨w.heap.size + 1, 0, none⟩ (.slice (some ⟨g1', 0, none⟩) (en + 1) cap1)).setCell ⟨w.heap.size + 1 + 1, 0, none⟩ (.int .i64 (at' : Int))).cell? ⟨g, 5, none⟩ = some (.slice A2 b.recs.length c2) := hkV.cell 5 rfl; have HG := Lib.hid (And.intro hgt hl2); clear hgt hl2 hb2 hb3 hkV hown1 hgrow1 hne1 hne2 g0 g1 g2 g3 g4 g5 cA cL cM cE)
      obtain ⟨V1, hV1⟩ : ∃ V1, V1 = ((w2.setCell ⟨w.heap.size + 1, 0, none⟩ (.slice (some ⟨g1', 0, none⟩) (en + 1) cap1)).setCell ⟨w.heap.size + 1 + 1, 0, none⟩ (.int .i64 (at' : Int))) := ⟨_, rfl⟩
      rw [← hV1]
      have hgt : ti.B w.heap.size w every ((at' : Int), mo, E ++ [(mo, b.base)]) (.slice (some ⟨g1', 0, none⟩) (en + 1) cap1) V1 ∧ Chg W V1 (fun k => k = w.heap.size + 1 ∨ k = w.heap.size + 2 ∨ k = w.heap.size + 3 ∨ (Value.slice Aa en ca).ownBlock = some k) := by rw [hV1]; exact HG.out.1
      have hlr : ∀ k, (Value.slice (some ⟨g1', 0, none⟩) (en + 1) cap1).ownBlock = some k → (Value.slice Aa en ca).ownBlock = some k ∨ W.heap.size ≤ k := fun k e => by
        rcases HG.out.2 with h | h
        · exact .inl (h.symm.trans e)
        · have e' : g1' = k := by simpa [Value.ownBlock] using e
          have h' := h
          simp [Value.ownBlock] at h'
          exact .inr (by omega)
      have hkp := (HI.out.keeps w1.heap.size hgt.1 hgt.2 hlr).2
      clear y0 y1 y2 y3 y4 y5 e1 f1 e2 f2 hV1 HG
      have HGT := Lib.hid (And.intro hgt hlr); clear hgt hlr
      refine ⟨trivial, ?_⟩
      refine (CallsIn.inRound l (callsIn_wide.2 (HTM.out V1 hkp))).mono ?_
      clear hkp
      rintro e W3 ⟨rfl, hb3⟩
      have hB3 := HGT.out.1.1.below (Nat.le_refl _) hb3
      have cM : W3.cell? ⟨w.heap.size + 1 + 1 + 1, 0, none⟩ = some (.int .i64 mo) := hB3.most.cell
      have fM : W3.frozen? ⟨w.heap.size + 1 + 1 + 1, 0, none⟩ = false := hB3.most.frozen
      clear hB3
      have hfin := fun m1 q => HSTEP.out V1 W3 _ (at' : Int) m1 (E ++ [(mo, b.base)]) q HGT.out.1.1 HGT.out.1.2 HGT.out.2 hb3
      rw [if_pos HYES.out, if_pos HYES.out] at hfin
      have HFIN := Lib.hid hfin; clear hfin hb3
      by_cases hmx : mo < mt
      · have HMX := Lib.hid (show max mo mt = mt by omega)
        gi_wp2_with fail
        exact HFIN.out mt (by rw [HMX.out])
      · have hmx2 : mt ≤ mo := by omega
        have HMX := Lib.hid (show max mo mt = mo by omega)
        gi_wp2_with fail
        exact HFIN.out mo (by rw [HMX.out])
  case done =>
    rintro D xs W hD hS ⟨⟨v, hI⟩, hle⟩ hK
    have hS : xs.map Prod.fst = dec.walk L := hS
    rw [hS] at hI
    have ra := hI.own
    obtain ⟨Aa, ca, rfl, hca, hata⟩ := own_at ra
    have cA := hI.box.cell
    have hB := hI.bel
    clear hI hle hS ra
    have hd : Dep (fun _ => True) W (fun U => At U Aa ((ti.st mm (dec.walk L)).2.2.length * 2) (fun j => (ti.row (ti.st mm (dec.walk L)).2.2).getD j undef)) := Dep.at' hata fun _ _ _ _ => trivial
    have HH := Lib.hid (And.intro hd hB); clear hd hata hB
    gi_wp2
    refine ⟨by simp, .inl ⟨_, _, rfl, run_takeDeferred hK, ?_⟩⟩
    refine ⟨_, results_tmp (t := 4) rfl _ _ _, ?_⟩
    refine ⟨Aa, ca, by rw [← HMM.out]; rfl, by rw [← HMM.out]; exact hca, ?_, HH.out.2.trans (belowK_b (w := w) (Nat.le_refl _) W D _ _ (by omega) hK rfl rfl)⟩
    rw [← HMM.out]
    exact HH.out.1.put hK rfl
  case stop =>
    rintro D cd pre W hD hpre h hK
    exact h.elim
end Go.Proofs.Ytchdolcnhopmjaa

/- Contract of oindex.Decode, of entries written and of a few bytes behind them. -/
import Derived.Test.YtmlkgealjbjlgaaOiE
import Derived.Test.YtmlkgealjbjlgaaRdZ
import Derived.Test.YtmlkgealjbjlgaaRdK
namespace Go.Proofs.Ytmlkgealjbjlgaa
open Go.RowKit

theorem oi.enc_byte (f : Nat → Nat → Int) (n : Nat) : ∀ x ∈ oi.enc f n, x < 256 := by
  induction n with
  | zero => intro x h; cases h
  | succ n ih =>
    intro x h
    rcases List.mem_append.1 h with h | h
    · exact ih x h
    · rcases List.mem_append.1 h with h | h
      · exact wire.be_byte _ _ x h
      · exact wire.be_byte _ _ x h
theorem oi.enc_split (f : Nat → Nat → Int) (k : Nat) : ∀ n, k ≤ n → ∃ R, oi.enc f n = oi.enc f k ++ R
  | 0, h => ⟨[], by obtain rfl : k = 0 := by omega
                    rfl⟩
  | n + 1, h => by
    by_cases e : k = n + 1
    · exact ⟨[], by rw [e, List.append_nil]⟩
    · obtain ⟨R, hR⟩ := oi.enc_split f k n (by omega)
      exact ⟨R ++ oi.enc1 f n, by rw [oi.enc, hR, List.append_assoc]⟩
theorem oi.enc_drop (f : Nat → Nat → Int) (n k : Nat) (T : List Nat) (hk : k < n) :
    (oi.enc f n ++ T).drop (16 * k) = wire.be (f k 0).toNat 8 ++ (wire.be (f k 1).toNat 8 ++ (oi.enc f n ++ T).drop (16 * (k + 1))) := by
  obtain ⟨R, hR⟩ := oi.enc_split f (k + 1) n (by omega)
  have e : oi.enc f n ++ T = oi.enc f (k + 1) ++ (R ++ T) := by rw [hR, List.append_assoc]
  rw [e, List.drop_left' (oi.enc_len f (k + 1))]
  rw [oi.enc, List.append_assoc, List.drop_left' (oi.enc_len f k), oi.enc1, List.append_assoc]
theorem oi.fixed8 (a : Nat) (R : List Nat) (ha : (a : Int) ≤ 9223372036854775807) : ¬ rd.fbad (wire.be a 8 ++ R) ((8 : Nat) : Int) ∧ wire.val ((wire.be a 8 ++ R).take 8) = a ∧ (wire.be a 8 ++ R).drop 8 = R := by
  have h := rd.fixed_be a 8 R (oi.fit8 (by omega)) ha
  unfold rd.fixed at h
  rw [if_neg (by simp)] at h
  by_cases hb : rd.fbad (wire.be a 8 ++ R) ((8 : Nat) : Int)
  · rw [if_pos hb] at h
    simp at h
  · rw [if_neg hb] at h
    simp only [Prod.mk.injEq, Int.toNat_natCast] at h
    exact ⟨hb, by have := h.1; omega, h.2.1⟩
theorem ent_one (x y : Int) : ∀ j, j < 1 * 2 → ((#[Value.int .i64 x, .int .i64 y] : Array Value).getD j undef).oneCell' = true
  | 0, _ => rfl
  | 1, _ => rfl
  | j + 2, h => by omega
theorem ent_cells (x y : Int) : cellsOf (1 * 2) (fun j => (#[Value.int .i64 x, .int .i64 y] : Array Value).getD j undef) = [.int .i64 x, .int .i64 y] := rfl
theorem oi.short (T : List Nat) (h : T.length < 8) : rd.fixed T 0 8 = (0, [], 2) := by
  unfold rd.fixed
  rw [if_neg (by simp), if_pos]
  unfold rd.fbad
  omega
theorem rd.fixed_err (L : List Nat) (e n : Int) (h : e ≠ 0) : rd.fixed L e n = (0, L, e) := by
  unfold rd.fixed
  rw [if_pos h]

def oi.lenOf : Value → Nat
  | .slice _ n _ => n
  | _ => 0
def oi.DecPost (w : World) (f : Nat → Nat → Int) (n : Nat) (T : List Nat) (e : Ending) (w' : World) : Prop :=
  ((T = [] ∧ ∃ v, e = .returned (.tuple #[v, .int .i64 0]) ∧ w'.ownsRow w.heap.size 78 2 v n (rows2 f n)) ∨ (T ≠ [] ∧ e = .returned (.tuple #[.slice none 0 0, .int .i64 2]))) ∧ Below w.heap.size w w'

/-- As the loop goes: the entry ahead at p, the reader r, what is gathered. -/
def oi.DecRel (w : World) (A : Option Addr) (p r : Nat) (f : Nat → Nat → Int) (n : Nat) (T : List Nat) (k : Nat) (u : Value) (wr : World) : Prop :=
  Blk wr p 78 #[.int .i64 (oi.pre f k 0), .int .i64 (oi.pre f k 1)] ∧ RdNear wr r A ((oi.enc f n ++ T).drop (16 * k)) 0 ∧ wr.ownsRow (r + 1) 78 2 u k (rows2 f k) ∧ Below w.heap.size w wr

/-- Inside a round: the entry ahead at p, the new one at q, the reader r, what is gathered. -/
structure oi.St (w : World) (A : Option Addr) (p r q : Nat) (r0 r1 x y : Int) (L : List Nat) (u : Value) (k : Nat) (rows : List Value) (W : World) : Prop where
  pre : Blk W p 78 #[.int .i64 r0, .int .i64 r1]
  ent : Blk W q 78 #[.int .i64 x, .int .i64 y]
  rd : RdNear W r A L 0
  low : ∀ a, A = some a → a.block < w.heap.size
  own : W.ownsRow (r + 1) 78 2 u k rows
  bel : Below w.heap.size w W
  qr : q ≠ r
  qp : q ≠ p
  pr : p < r
  qu : u.ownBlock ≠ some q
  wp : w.heap.size ≤ p
  wq : w.heap.size ≤ q
theorem oi.St.fixed {w : World} {A : Option Addr} {p r q : Nat} {r0 r1 x y : Int} {L L' : List Nat} {u : Value} {k : Nat} {rows : List Value} {W W' : World} (h : oi.St w A p r q r0 r1 x y L u k rows W) (hc : Chg W W' (rdT r)) (hr : RdNear W' r A L' 0) :
    oi.St w A p r q r0 r1 x y L' u k rows W' :=
  { h with pre := hc.blk h.pre (show ¬ p = r by have := h.pr; omega), ent := hc.blk h.ent h.qr, rd := hr,
           own := hc.own h.own (fun j hj e => by have := (h.own.lt j hj).1; have e' : j = r := e; omega),
           bel := h.bel.trans (hc.below h.bel.size fun j hj => by have e' : j = r := hj; have := h.wp; have := h.pr; omega) }
theorem RdNear.ints {w : World} {r : Nat} {A0 : Option Addr} {L : List Nat} {e : Int} (h : RdNear w r A0 L e) {q : Nat} {T : TypeId} {x y : Int} (hb : Blk w q T #[.int .i64 x, .int .i64 y]) (hne : q ≠ r) (j : Nat) (v : Value) : RdNear (w.setCell ⟨q, j, none⟩ v) r A0 L e := by
  obtain ⟨A, c, h, hnear⟩ := h
  have hc := Chg.setCell w q j v
  refine ⟨A, c, ⟨hc.blk h.blk (fun e => hne e.symm), hc.at' h.lie fun hm b off hA => ?_, h.len, h.cap, h.byte⟩, hnear⟩
  exact h.lie.not_blk hm hb (fun i z hi => by
    rcases i with _ | _ | i
    · simp at hi; subst hi; unfold byteAt; simp
    · simp at hi; subst hi; unfold byteAt; simp
    · simp at hi) b off hA
theorem oi.St.set0 {w : World} {A : Option Addr} {p r q : Nat} {r0 r1 x y : Int} {L : List Nat} {u : Value} {k : Nat} {rows : List Value} {W : World} (h : oi.St w A p r q r0 r1 x y L u k rows W) (z : Int) :
    oi.St w A p r q r0 r1 z y L u k rows (W.setCell ⟨q, 0, none⟩ (.int .i64 z)) :=
  have hc := Chg.setCell W q 0 (.int .i64 z)
  { h with pre := hc.blk h.pre (fun e => h.qp e.symm), ent := h.ent.set 0 _, rd := h.rd.ints h.ent h.qr 0 _, own := hc.own h.own (fun j hj e => h.qu (by rw [hj, show j = q from e])), bel := h.bel.setCell (p := ⟨q, 0, none⟩) h.wq _ }
theorem oi.St.set1 {w : World} {A : Option Addr} {p r q : Nat} {r0 r1 x y : Int} {L : List Nat} {u : Value} {k : Nat} {rows : List Value} {W : World} (h : oi.St w A p r q r0 r1 x y L u k rows W) (z : Int) :
    oi.St w A p r q r0 r1 x z L u k rows (W.setCell ⟨q, 1, none⟩ (.int .i64 z)) :=
  have hc := Chg.setCell W q 1 (.int .i64 z)
  { h with pre := hc.blk h.pre (fun e => h.qp e.symm), ent := h.ent.set 1 _, rd := h.rd.ints h.ent h.qr 1 _, own := hc.own h.own (fun j hj e => h.qu (by rw [hj, show j = q from e])), bel := h.bel.setCell (p := ⟨q, 1, none⟩) h.wq _ }

theorem oi.St.grown {w : World} {A : Option Addr} {p r q : Nat} {r0 r1 x y : Int} {L : List Nat} {u u' : Value} {k k' : Nat} {rows rows' : List Value} {W W' : World} {o : Obj} (h : oi.St w A p r q r0 r1 x y L u k rows W) (hg : (W.alloc o).grownBy W' u.ownBlock) (hl : Lies (W.alloc o) u u')
    (hown : W'.ownsRow (r + 1) 78 2 u' k' rows') : oi.St w A p r q r0 r1 x y L u' k' rows' W' := by
  have hc : Chg W W' (fun j => u.ownBlock = some j) := ((Chg.alloc W o (fun _ => False)).mono (Q := fun j => u.ownBlock = some j) fun _ _ h => h.elim).trans (Chg.grown hg) fun _ _ e => e
  have hcu : ∀ j, u.ownBlock = some j → r + 1 ≤ j := fun j e => (h.own.lt j e).1
  have hpr := h.pr
  refine { h with pre := hc.blk h.pre (fun e => by have := hcu p e; omega), ent := hc.blk h.ent h.qu, rd := ?_, own := hown, bel := ?_, qu := ?_ }
  · obtain ⟨A2, c, hr, hnear⟩ := h.rd
    refine ⟨A2, c, ⟨hc.blk hr.blk (fun e => by have := hcu r e; omega), hc.at' hr.lie (fun hm b off hA e => ?_), hr.len, hr.cap, hr.byte⟩, hnear⟩
    obtain ⟨a, ha, hab⟩ := hnear _ hA
    have h1 := h.low a ha
    have h2 := hcu b e
    have h3 := h.wp
    have hab' : a.block = b := hab
    omega
  · exact h.bel.trans (hc.below h.bel.size fun j e => by have := hcu j e; have := h.wp; omega)
  · rcases hl with hl | hl
    · rw [hl]; exact h.qu
    · rw [hl]
      intro e
      have := h.ent.lt
      simp at e
      omega
theorem oi.St.setp {w : World} {A : Option Addr} {p r q : Nat} {r0 r1 x y : Int} {L : List Nat} {u : Value} {k : Nat} {rows : List Value} {W : World} (h : oi.St w A p r q r0 r1 x y L u k rows W) :
    oi.St w A p r q x y x y L u k rows ((W.setCell ⟨p, 0, none⟩ (.int .i64 x)).setCell ⟨p, 1, none⟩ (.int .i64 y)) := by
  have hc := Chg.setCell W p 0 (.int .i64 x)
  have hc2 := Chg.setCell (W.setCell ⟨p, 0, none⟩ (.int .i64 x)) p 1 (.int .i64 y)
  have hpr := h.pr
  have hrow : ∀ j, u.ownBlock = some j → ¬ j = p := fun j hj e => by have := (h.own.lt j hj).1; omega
  exact { h with pre := (h.pre.set 0 _).set 1 _, ent := hc2.blk (hc.blk h.ent h.qp) h.qp, rd := (h.rd.ints h.pre (by omega) 0 _).ints (h.pre.set 0 _) (by omega) 1 _, own := hc2.own (hc.own h.own hrow) hrow,
                 bel := (h.bel.setCell (p := ⟨p, 0, none⟩) h.wp _).setCell (p := ⟨p, 1, none⟩) h.wp _ }

set_option maxRecDepth 20000 in
set_option maxHeartbeats 1000000 in
theorem oi.decode_any (A : Option Addr) (m c n : Nat) (f : Nat → Nat → Int) (T : List Nat) (w : World) (hn : n ≤ 1000) (hT : T.length < 8) (hTb : ∀ x ∈ T, x < 256) (hf : ∀ i j, i < n → j < 2 → -9223372036854775808 ≤ f i j ∧ f i j ≤ 9223372036854775807)
    (hok : ∀ j, j < n → ¬ oi.bad f j) (hm : (oi.enc f n ++ T).length = m) (hat : At w A m (byteAt (oi.enc f n ++ T))) (hc : m ≤ c ∧ c ≤ maxLen) :
    Calls Try.prog 23 #[.slice A m c] w (oi.DecPost w f n T) := by
  obtain ⟨i0, hi, hz0, hz1, hz2⟩ := info_parts infoEnt
  have HF := Lib.hid hf; clear hf
  have HOK := Lib.hid hok; clear hok
  have hlow : 0 < m → ∀ a, A = some a → a.block < w.heap.size := fun h a ha => by
    obtain ⟨b, off, hA, hb, _⟩ := hat h
    rw [ha] at hA
    cases hA
    exact hb
  have HLOW := Lib.hid hlow; clear hlow
  have hbor := fun w' (hb : Below w.heap.size w w') => wire.borrow_at A c (oi.enc f n ++ T) w' (by rw [hm]; exact hat.below hb (Nat.le_refl _)) (by rw [hm]; exact hc.1) hc.2 (fun x hx => by
    rcases List.mem_append.1 hx with h | h
    · exact oi.enc_byte f n x h
    · exact hTb x h)
  rw [hm] at hbor
  have HBOR := Lib.hid hbor; clear hbor hat hTb
  have HM := Lib.hid hm; clear hm
  go_enter Try.func23, Try.ntmps23
  go_wp2_with fail
  refine (HBOR.out _ ((Below.refl _ w).alloc (Nat.le_refl _) _)).mono ?_
  rintro e w1 ⟨r, rfl, hrd, hrr, hb1⟩
  have hbl : Below w.heap.size w w1 := ((Below.refl _ w).alloc (Nat.le_refl _) _).trans (hb1.mono (by simp))
  have hblk : Blk w1 w.heap.size 78 #[.int .i64 (-1), .int .i64 (-1)] := (hb1.block _ (by simp)).trans (Blk.new w _ _)
  have hrr' : w.heap.size < r := by simp at hrr; omega
  have h0 : oi.DecRel w A w.heap.size r f n T 0 (.slice none 0 0) w1 := ⟨hblk, by rw [Nat.mul_zero, List.drop_zero]; exact ⟨A, c, hrd, Near.refl A⟩, World.ownsRow_nil _ _ _ _, hbl⟩
  have H0 := Lib.hid h0; clear h0 hrd hblk hbl hb1 hrr
  go_wp2
  go_loopw [4] (fun v wr => ∃ (k : Nat) (u : Value), u = v ∧ k ≤ n ∧ oi.DecRel w A w.heap.size r f n T k u wr) (fun v _ => n + 1 - oi.lenOf v)
  case atStart => exact ⟨0, _, rfl, by omega, H0.out⟩
  case round =>
    obtain ⟨k, v, rfl, hk, hp, hrd, hown, hb⟩ := hrel
    obtain ⟨A1, c1, hrd, hnear⟩ := hrd
    have HNEAR := Lib.hid hnear; clear hnear
    have HRD := Lib.hid hrd; clear hrd
    have HO := Lib.hid hown
    have HOLD := Lib.hid hown; clear hown
    have HB := Lib.hid hb; clear hb H0
    by_cases hlt : k < n
    · have hbad := HOK.out k hlt
      have hpre := oi.pre_ge f k fun j hj => HOK.out j (by omega)
      have hfb0 := HF.out k 0 hlt (by omega)
      have hfb1 := HF.out k 1 hlt (by omega)
      have g0 : ¬ f k 0 ≤ oi.pre f k 0 := fun h => hbad (.inl h)
      have g1 : ¬ f k 1 ≤ oi.pre f k 1 := fun h => hbad (.inr h)
      obtain ⟨a0, ha0⟩ := Int.eq_ofNat_of_zero_le (show 0 ≤ f k 0 by omega)
      obtain ⟨a1, ha1⟩ := Int.eq_ofNat_of_zero_le (show 0 ≤ f k 1 by omega)
      have hd := oi.enc_drop f n k T hlt
      rw [ha0, ha1, Int.toNat_natCast, Int.toNat_natCast] at hd
      have hm0 : 0 < m := by rw [← HM.out, List.length_append, oi.enc_len]; omega
      have hpos : 16 ≤ ((oi.enc f n ++ T).drop (16 * k)).length := by rw [hd]; simp only [List.length_append, wire.be_len]; omega
      have hv0 : ¬ rd.fbad ((oi.enc f n ++ T).drop (16 * k)) ((8 : Nat) : Int) ∧ wire.val (((oi.enc f n ++ T).drop (16 * k)).take 8) = a0 ∧ ((oi.enc f n ++ T).drop (16 * k)).drop 8 = wire.be a1 8 ++ (oi.enc f n ++ T).drop (16 * (k + 1)) := by rw [hd]; exact oi.fixed8 a0 _ (by omega)
      have hv1 : ¬ rd.fbad (wire.be a1 8 ++ (oi.enc f n ++ T).drop (16 * (k + 1))) ((8 : Nat) : Int) ∧ wire.val ((wire.be a1 8 ++ (oi.enc f n ++ T).drop (16 * (k + 1))).take 8) = a1 ∧ (wire.be a1 8 ++ (oi.enc f n ++ T).drop (16 * (k + 1))).drop 8 = (oi.enc f n ++ T).drop (16 * (k + 1)) := oi.fixed8 a1 _ (by omega)
      obtain ⟨D1, hD1⟩ : ∃ D1, D1 = (oi.enc f n ++ T).drop (16 * (k + 1)) := ⟨_, rfl⟩
      rw [← hD1] at hv0 hv1
      have HD1 := Lib.hid hD1; clear hD1
      have HV := Lib.hid (And.intro hv0 hv1); clear hv0 hv1 hd
      have hrows : rows2 f (k + 1) = rows2 f k ++ [.int .i64 (a0 : Int), .int .i64 (a1 : Int)] := by rw [rows2_succ, ha0, ha1]
      have HROWS := Lib.hid hrows; clear hrows
      have hpre1 : Value.int .i64 (a0 : Int) = .int .i64 (oi.pre f (k + 1) 0) := congrArg (Value.int .i64) ha0.symm
      have hpre2 : Value.int .i64 (a1 : Int) = .int .i64 (oi.pre f (k + 1) 1) := congrArg (Value.int .i64) ha1.symm
      have HP1 := Lib.hid hpre1; clear hpre1
      have HP2 := Lib.hid hpre2; clear hpre2
      rw [ha0] at g0
      rw [ha1] at g1
      clear ha0 ha1 hfb0 hfb1 hbad
      generalize oi.pre f k 0 = r0 at *
      generalize oi.pre f k 1 = r1 at *
      generalize (oi.enc f n ++ T).drop (16 * k) = D at *
      generalize rows2 f k = rows at *
      have hpos' : (0 : Int) < (D.length : Int) := by omega
      have HPB := Lib.hid hp; clear hp
      go_wp2_with fail
      refine (wire.left_any r A1 c1 _ 0 wr HRD.out).mono ?_
      rintro en w' ⟨rfl, rfl⟩
      go_wp2_with fail
      obtain ⟨q, hq⟩ : ∃ q, q = wr.heap.size := ⟨_, rfl⟩
      have hst : oi.St w A w.heap.size r q r0 r1 0 0 D v k rows (wr.alloc (.cells #[.int .i64 0, .int .i64 0] 78)) :=
        { pre := (Below.heap_alloc _ _ _ HPB.out.lt).trans HPB.out, ent := by rw [hq]; exact Blk.new _ _ _, rd := ⟨A1, c1, ⟨(Below.heap_alloc _ _ _ HRD.out.blk.lt).trans HRD.out.blk, HRD.out.lie.alloc _, HRD.out.len, HRD.out.cap, HRD.out.byte⟩, HNEAR.out⟩, low := HLOW.out hm0, own := HO.out.alloc _, bel := HB.out.alloc HB.out.size _,
          qr := by have := HRD.out.blk.lt; omega, qp := by have := HPB.out.lt; omega, pr := hrr', qu := fun h => by have := (HO.out.lt q h).2; omega, wp := Nat.le_refl _, wq := by have := HB.out.size; omega }
      rw [← hq] at *
      generalize wr.alloc (.cells #[.int .i64 0, .int .i64 0] 78) = wA at *
      have HST := Lib.hid hst
      obtain ⟨A2, c2, hrd2, hn2⟩ := hst.rd
      have HN2 := Lib.hid hn2
      clear hst HPB HRD HO HB hn2
      refine (wire.rfixed_near r A2 c2 D 8 wA hrd2 HV.out.1.1).mono ?_
      clear hrd2
      rintro en w2 ⟨rfl, ⟨A2', c2', hrd, hn⟩, hch⟩
      rw [HV.out.1.2.1]
      rw [HV.out.1.2.2] at hrd
      have hrd := (show RdNear w2 r A (wire.be a1 8 ++ D1) 0 from ⟨A2', c2', hrd, HN2.out.trans hn⟩)
      have hst := HST.out.fixed hch hrd
      have hc0 := hst.ent.cell 0 (v := .int .i64 0) rfl
      have hf0 := hst.ent.frozen 0
      have HST2 := Lib.hid hst; clear hst hrd hch HST
      go_wp2_with fail
      have hst := HST2.out.set0 (a0 : Int)
      generalize w2.setCell ⟨q, 0, none⟩ (.int .i64 (a0 : Int)) = w3 at *
      have HST3 := Lib.hid hst; clear HST2
      obtain ⟨A3, c3, hrd3, hn3⟩ := hst.rd
      have HN3 := Lib.hid hn3
      clear hst hc0 hf0 hn3
      refine (wire.rfixed_near r A3 c3 (wire.be a1 8 ++ D1) 8 w3 hrd3 HV.out.2.1).mono ?_
      clear hrd3
      rintro en w4 ⟨rfl, ⟨A4', c4', hrd, hn⟩, hch⟩
      rw [HV.out.2.2.1]
      rw [HV.out.2.2.2] at hrd
      have hrd := (show RdNear w4 r A D1 0 from ⟨A4', c4', hrd, HN3.out.trans hn⟩)
      have hst := HST3.out.fixed hch hrd
      have hc1 := hst.ent.cell 1 (v := .int .i64 0) rfl
      have hf1 := hst.ent.frozen 1
      have HST4 := Lib.hid hst; clear hst hrd hch HST3
      go_wp2_with fail
      have hst := HST4.out.set1 (a1 : Int)
      generalize w4.setCell ⟨q, 1, none⟩ (.int .i64 (a1 : Int)) = w5 at *
      have HST5 := Lib.hid hst; clear HST4 hc1 hf1
      obtain ⟨A5, c5, hrd5, -⟩ := hst.rd
      refine (wire.err_any r A5 c5 D1 0 w5 hrd5).mono ?_
      rintro en w' ⟨rfl, rfl⟩
      have q0 := hst.ent.cell 0 (v := .int .i64 (a0 : Int)) rfl
      have q1 := hst.ent.cell 1 (v := .int .i64 (a1 : Int)) rfl
      have p0 := hst.pre.cell 0 (v := .int .i64 r0) rfl
      have p1 := hst.pre.cell 1 (v := .int .i64 r1) rfl
      have hr5 : r < w5.heap.size := hrd5.blk.lt
      clear hst hrd5
      go_wp2_with (at_builtin; refine wpList_app2 _ rfl (.tmp 37) (.tmp 39) 47 rfl (r + 1) 78 i0 _ 2 16 Try.underlying47 hi hz0 hz1 hz2 rfl (by decide) v k rows rfl (HST5.out.own.alloc _) (some ⟨w5.heap.size, 0, none⟩) 1 1 (fun j => (#[Value.int .i64 (a0 : Int), .int .i64 (a1 : Int)] : Array Value).getD j undef) rfl (At.new w5 #[.int .i64 (a0 : Int), .int .i64 (a1 : Int)] 78 (n := 1 * 2) rfl) (ent_one _ _) (by unfold maxLen; omega) (by omega) (by rw [World.size_alloc]; omega) ?_; intro v' w6 hown6 hg6 hl6; rw [ent_cells] at hown6; have hst := HST5.out.grown hg6 hl6 hown6; have y0 := hst.ent.cell 0 (v := .int .i64 (a0 : Int)) rfl; have y1 := hst.ent.cell 1 (v := .int .i64 (a1 : Int)) rfl; have z0 := hst.pre.cell 0 (v := .int .i64 r0) rfl; have z1 := hst.pre.cell 1 (v := .int .i64 r1) rfl; have zf0 := hst.pre.frozen 0; have zf1 := hst.pre.frozen 1; have HST6 := Lib.hid hst; clear hst hown6 hg6 hl6)
      have hst := HST6.out.setp
      obtain ⟨A7, c7, hv7, -⟩ := own_at hst.own
      have HST7 := Lib.hid hst; clear hst HST5 HST6
      go_roundw
      case rel =>
        refine ⟨k + 1, v', rfl, by omega, ?_, by rw [← HD1.out]; exact HST7.out.rd, ?_, HST7.out.bel⟩
        · rw [← HP1.out, ← HP2.out]; exact HST7.out.pre
        · rw [HROWS.out]; exact HST7.out.own
      case measure =>
        rw [hv7]
        obtain ⟨A8, c8, hv8, -⟩ := own_at HOLD.out
        simp [oi.lenOf, hv8]
        omega
    · obtain rfl : k = n := by omega
      have hd : (oi.enc f k ++ T).drop (16 * k) = T := List.drop_left' (oi.enc_len f k)
      rw [hd] at HRD
      clear hd
      have hfx := oi.short T hT
      have HFX := Lib.hid hfx; clear hfx
      by_cases hT0 : T = []
      · have hT1 : (T.length : Int) = 0 := by rw [hT0]; rfl
        go_wp2_with fail
        refine (wire.left_any r A1 c1 _ 0 wr HRD.out).mono ?_
        rintro en w' ⟨rfl, rfl⟩
        go_wp2_with fail
        go_ret2
        exact ⟨.inl ⟨hT0, v, rfl, ⟨HO.out.1, HO.out.2.imp id fun ⟨g, cap, cur, h1, h2, h3⟩ => ⟨g, cap, cur, h1, (by omega), h3⟩⟩⟩, HB.out⟩
      · have hT1 : (0 : Int) < (T.length : Int) := by have := List.length_pos_iff.2 hT0; omega
        go_wp2_with fail
        refine (wire.left_any r A1 c1 _ 0 wr HRD.out).mono ?_
        rintro en w' ⟨rfl, rfl⟩
        go_wp2_with fail
        obtain ⟨q, hq⟩ : ∃ q, q = wr.heap.size := ⟨_, rfl⟩
        have hrd0 : Rd (wr.alloc (.cells #[.int .i64 0, .int .i64 0] 78)) r A1 c1 T 0 := ⟨(Below.heap_alloc _ _ _ HRD.out.blk.lt).trans HRD.out.blk, HRD.out.lie.alloc _, HRD.out.len, HRD.out.cap, HRD.out.byte⟩
        have hx : Blk (wr.alloc (.cells #[.int .i64 0, .int .i64 0] 78)) q 78 #[.int .i64 0, .int .i64 0] := by rw [hq]; exact Blk.new _ _ _
        have hb0 : Below w.heap.size w (wr.alloc (.cells #[.int .i64 0, .int .i64 0] 78)) := HB.out.alloc HB.out.size _
        have hqr : q ≠ r := by have := HRD.out.blk.lt; omega
        have hwq : w.heap.size ≤ q := by have := HB.out.size; omega
        rw [← hq] at *
        generalize wr.alloc (.cells #[.int .i64 0, .int .i64 0] 78) = wA at *
        have HX := Lib.hid hx; clear hx
        have HB0 := Lib.hid hb0; clear hb0
        have hc := wire.rfixed_any r A1 c1 T 0 8 wA hrd0
        rw [HFX.out] at hc
        refine hc.mono ?_
        clear hc hrd0 HRD
        rintro en w2 ⟨rfl, hrd, hch⟩
        have hx := hch.blk HX.out hqr
        have hc0 := hx.cell 0 (v := .int .i64 0) rfl
        have hf0 := hx.frozen 0
        have HB2 := Lib.hid (HB0.out.trans (hch.below HB0.out.size fun j hj => by have e' : j = r := hj; omega))
        clear HB0 hch
        have HX2 := Lib.hid hx; clear hx HX
        have HR2 := Lib.hid hrd; clear hrd
        go_wp2_with fail
        obtain ⟨A3, c3, hrd3⟩ := HR2.out
        have hrd3 : Rd (w2.setCell ⟨q, 0, none⟩ (.int .i64 0)) r A3 c3 [] 2 := by
          have hc := Chg.setCell w2 q 0 (.int .i64 0)
          exact ⟨hc.blk hrd3.blk (fun e => hqr e.symm), (fun h => absurd h (by simp)), hrd3.len, hrd3.cap, hrd3.byte⟩
        have hx := HX2.out.set 0 (.int .i64 0)
        have hb := HB2.out.setCell (p := ⟨q, 0, none⟩) hwq (.int .i64 0)
        generalize w2.setCell ⟨q, 0, none⟩ (.int .i64 0) = w3 at *
        have HX3 := Lib.hid hx; clear hx HX2 HR2 hc0 hf0
        have HB3 := Lib.hid hb; clear hb HB2
        have hc := wire.rfixed_any r A3 c3 [] 2 8 w3 hrd3
        rw [rd.fixed_err [] 2 8 (by decide)] at hc
        refine hc.mono ?_
        clear hc hrd3
        rintro en w4 ⟨rfl, hrd, hch⟩
        have hx := hch.blk HX3.out hqr
        have hc1 := hx.cell 1 (v := .int .i64 0) rfl
        have hf1 := hx.frozen 1
        have HB4 := Lib.hid (HB3.out.trans (hch.below HB3.out.size fun j hj => by have e' : j = r := hj; omega))
        clear HB3 hch
        have HX4 := Lib.hid hx; clear hx HX3
        have HR4 := Lib.hid hrd; clear hrd
        go_wp2_with fail
        obtain ⟨A5, c5, hrd5⟩ := HR4.out
        have hrd5 : Rd (w4.setCell ⟨q, 1, none⟩ (.int .i64 0)) r A5 c5 [] 2 := by
          have hc := Chg.setCell w4 q 1 (.int .i64 0)
          exact ⟨hc.blk hrd5.blk (fun e => hqr e.symm), (fun h => absurd h (by simp)), hrd5.len, hrd5.cap, hrd5.byte⟩
        have hx := HX4.out.set 1 (.int .i64 0)
        have hb := HB4.out.setCell (p := ⟨q, 1, none⟩) hwq (.int .i64 0)
        generalize w4.setCell ⟨q, 1, none⟩ (.int .i64 0) = w5 at *
        refine (wire.err_any r A5 c5 [] 2 w5 hrd5).mono ?_
        rintro en w' ⟨rfl, rfl⟩
        clear hrd5 hc1 hf1 HX4 HR4 HB4
        have HB5 := Lib.hid hb; clear hb
        go_wp2_with fail
        go_ret2
        exact ⟨.inr ⟨hT0, rfl⟩, HB5.out⟩
end Go.Proofs.Ytmlkgealjbjlgaa

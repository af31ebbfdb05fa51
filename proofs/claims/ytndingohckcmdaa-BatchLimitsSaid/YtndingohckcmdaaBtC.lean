/- batch: contracts of Times and size. -/
import Derived.Test.YtndingohckcmdaaBtB
namespace Go.Proofs.Ytndingohckcmdaa
open Go.RowKit

def Bat.first (rs : List Rec) : Int := match rs with | [] => 0 | r :: _ => r.time
/-- The greatest time of the first k. -/
def Bat.mostTo (rs : List Rec) (k : Nat) : Int := (rs.take k).foldl (fun m r => max m r.time) (Bat.first rs)
def Bat.mostT (rs : List Rec) : Int := Bat.mostTo rs rs.length
theorem Bat.mostTo_succ (rs : List Rec) (k : Nat) (r : Rec) (h : rs[k]? = some r) : Bat.mostTo rs (k + 1) = max (Bat.mostTo rs k) r.time := by
  obtain ⟨hk, rfl⟩ := List.getElem?_eq_some_iff.1 h
  unfold Bat.mostTo
  rw [List.take_succ_eq_append_getElem hk, List.foldl_append]
  rfl
theorem Bat.first_zero (rs : List Rec) (r : Rec) (h : rs[0]? = some r) : Bat.first rs = r.time := by
  cases rs with
  | nil => simp at h
  | cons a l => obtain rfl : a = r := by simpa using h
                rfl

set_option maxRecDepth 20000 in
set_option maxHeartbeats 2000000 in
theorem bat.times_any (b : Bat) (A : Option Addr) (c : Nat) (w : World) (hv : RecsV w (.slice A b.recs.length c) b.recs) :
    Calls Try.prog 15 #[b.hval A b.recs.length c] w fun e w' => e = .returned (.tuple #[.int .i64 (Bat.first b.recs), .int .i64 (Bat.mostT b.recs)]) ∧ Below w.heap.size w w' := by
  have hlen : b.recs.length ≤ maxLen := by
    obtain ⟨A', c', V, h, h1, h2, -⟩ := hv
    exact Nat.le_trans h1 h2
  unfold maxLen at hlen
  have HV := Lib.hid hv; clear hv
  unfold Bat.hval
  go_enter Try.func15, Try.ntmps15
  go_wp2_with fail
  obtain ⟨w1, hw1⟩ : ∃ w1, w1 = w.alloc (.cells #[.int .i64 b.base, .int .i64 b.last, .int .i64 b.prod, .int .i64 b.epoch, .int .i64 b.seq, .slice A b.recs.length c] 24) := ⟨_, rfl⟩
  rw [← hw1]
  have hb1 : Below w.heap.size w w1 := by rw [hw1]; exact (Below.refl _ w).alloc (Nat.le_refl _) _
  clear hw1
  have HB1 := Lib.hid hb1; clear hb1
  go_loopw [2, 3, 9] (fun f m i wr => ∃ j : Nat, j ≤ b.recs.length ∧ i = .int .i64 (j : Int) ∧ ((j = 0 ∧ f = .int .i64 0 ∧ m = .int .i64 0) ∨ (0 < j ∧ f = .int .i64 (Bat.first b.recs) ∧ m = .int .i64 (Bat.mostTo b.recs j))) ∧ Below w1.heap.size w1 wr) (fun _ _ i _ => b.recs.length - (intOf i).toNat)
  case atStart => exact ⟨0, by omega, rfl, .inl ⟨rfl, rfl, rfl⟩, Below.refl _ _⟩
  case round =>
    obtain ⟨j, hj, rfl, hfm, hbw⟩ := hrel
    have HBW := Lib.hid hbw; clear hbw
    by_cases hlt : j < b.recs.length
    · obtain ⟨x, hx⟩ : ∃ x, b.recs[j]? = some x := ⟨_, List.getElem?_eq_getElem hlt⟩
      obtain ⟨p, off, c', kv, vv, hA, -, -, hp, d0, d1, d2, d3, d4, d5, hk, hvv, -, -⟩ := (HV.out.below (HB1.out.trans (HBW.out.mono HB1.out.size)) (Nat.le_refl _)).at' hx
      obtain ⟨rfl, rfl⟩ : A = some ⟨p, off, none⟩ ∧ c = c' := by simpa using hA
      obtain ⟨Ak, ck, rfl, -, -, -, -⟩ := hk
      obtain ⟨Av, cv, rfl, -, -, -, -⟩ := hvv
      have HM := Lib.hid (Bat.mostTo_succ b.recs j x hx)
      have HX := Lib.hid hx; clear hx hA
      rcases hfm with ⟨rfl, rfl, rfl⟩ | ⟨hj0, rfl, rfl⟩
      · have hF := Bat.first_zero b.recs x HX.out
        have HF := Lib.hid hF; clear hF
        have hM0 : Bat.mostTo b.recs 1 = x.time := by rw [HM.out]; unfold Bat.mostTo; rw [HF.out]; simp
        have HM0 := Lib.hid hM0; clear hM0
        rw [Nat.zero_mul] at d0 d1 d2 d3 d4 d5
        rw [Nat.add_zero] at d0 d1 d2 d3 d4 d5
        go_wp2_with fail
        go_quiet (fail)
        go_wp2
        all_goals
          go_roundw
          case rel => exact ⟨1, by omega, by go_num, .inr ⟨by omega, by rw [HF.out], by first | (rw [HM0.out]; done) | (rw [HM0.out]; refine num_eq ?_; omega)⟩, bdrew (HBW.out.alloc HBW.out.size _) _⟩
          case measure => simp [intOf]; omega
      · have hd : ((j : Int) == 0) = false := by simp; omega
        generalize Bat.mostTo b.recs j = M at *
        go_wp2
        all_goals
          go_roundw
          case rel => exact ⟨j + 1, by omega, by go_num, .inr ⟨by omega, rfl, by rw [HM.out]; refine num_eq ?_; omega⟩, HBW.out.alloc HBW.out.size _⟩
          case measure => simp [intOf]; omega
    · obtain rfl : j = b.recs.length := by omega
      rcases hfm with ⟨h0, rfl, rfl⟩ | ⟨hj0, rfl, rfl⟩
      · have hnil : b.recs = [] := List.length_eq_zero_iff.1 h0
        have hF : Bat.first b.recs = 0 := by rw [hnil]; rfl
        have hM : Bat.mostT b.recs = 0 := by rw [hnil]; rfl
        have HF := Lib.hid hF; clear hF
        have HM := Lib.hid hM; clear hM hnil
        clear h0
        go_wp2
        go_ret2
        exact ⟨by rw [HF.out, HM.out]; rfl, HB1.out.trans (HBW.out.mono HB1.out.size)⟩
      · go_wp2
        go_ret2
        exact ⟨rfl, HB1.out.trans (HBW.out.mono HB1.out.size)⟩

/-- How long a batch is whose records are these. -/
def Bat.sum (first base : Int) (rs : List Rec) : Int := (rs.map fun r => ((num.widI (r.body first base) : Nat) : Int) + r.body first base).sum
def Bat.size (b : Bat) : Int := 50 + Bat.sum (Bat.first b.recs) b.base b.recs
/-- A record that may be, in a batch that may. -/
def Rec.ok (r : Rec) : Prop := 0 ≤ r.time ∧ r.time ≤ 1125899906842624 ∧ 0 ≤ r.off ∧ r.off ≤ 4611686018427387904 ∧ r.key.length ≤ 200 ∧ r.val.length ≤ 2000
theorem Rec.body_le {r : Rec} (h : r.ok) (first base : Int) : 0 ≤ r.body first base ∧ r.body first base ≤ 2240 := by
  have z1 := num.widI_le (r.time - first)
  have z2 := num.widI_le (r.off - base)
  have z3 := num.widI_le (bat.len r.hasKey r.key.length)
  have z4 := num.widI_le (bat.len r.hasVal r.val.length)
  obtain ⟨-, -, -, -, h5, h6⟩ := h
  unfold Rec.body
  omega
theorem Bat.sum_le (first base : Int) (rs : List Rec) (h : ∀ r ∈ rs, r.ok) : 0 ≤ Bat.sum first base rs ∧ Bat.sum first base rs ≤ 2250 * rs.length := by
  unfold Bat.sum
  induction rs with
  | nil => simp
  | cons r rs ih =>
    have := ih fun x hx => h x (List.mem_cons_of_mem _ hx)
    have h1 := Rec.body_le (h r (List.mem_cons_self ..)) first base
    have h2 := num.widI_le (r.body first base)
    simp only [List.map_cons, List.sum_cons, List.length_cons]
    omega
theorem Bat.sum_succ (first base : Int) (rs : List Rec) (k : Nat) (r : Rec) (h : rs[k]? = some r) : Bat.sum first base (rs.take (k + 1)) = Bat.sum first base (rs.take k) + (num.widI (r.body first base) + r.body first base) := by
  obtain ⟨hk, rfl⟩ := List.getElem?_eq_some_iff.1 h
  unfold Bat.sum
  rw [List.take_succ_eq_append_getElem hk, List.map_append, List.sum_append]
  simp

set_option maxRecDepth 20000 in
set_option maxHeartbeats 2000000 in
theorem bat.size_any (b : Bat) (A : Option Addr) (c : Nat) (w : World) (hv : RecsV w (.slice A b.recs.length c) b.recs) (hok : ∀ r ∈ b.recs, r.ok) (hl : b.recs.length ≤ 1000000) (hb : 0 ≤ b.base ∧ b.base ≤ 4611686018427387904) :
    Calls Try.prog 44 #[b.hval A b.recs.length c] w fun e w' => e = .returned (.int .i64 b.size) ∧ Below w.heap.size w w' := by
  have hfirst : 0 ≤ Bat.first b.recs ∧ Bat.first b.recs ≤ 1125899906842624 := by
    cases hr : b.recs with
    | nil => exact ⟨Int.le_refl 0, by show (0 : Int) ≤ 1125899906842624; omega⟩
    | cons r rs =>
      have := hok r (by rw [hr]; exact List.mem_cons_self ..)
      exact ⟨this.1, this.2.1⟩
  have HOK := Lib.hid hok; clear hok
  have HV := Lib.hid hv; clear hv
  have hsz : b.size = 50 + Bat.sum (Bat.first b.recs) b.base b.recs := rfl
  have HSZ := Lib.hid hsz; clear hsz
  have htm := fun wx (h : Below w.heap.size w wx) => bat.times_any b A c wx (HV.out.below h (Nat.le_refl _))
  have HTM := Lib.hid htm; clear htm
  unfold Bat.hval at *
  go_enter Try.func44, Try.ntmps44
  go_wp2_with fail
  obtain ⟨w1, hw1⟩ : ∃ w1, w1 = w.alloc (.cells #[.int .i64 b.base, .int .i64 b.last, .int .i64 b.prod, .int .i64 b.epoch, .int .i64 b.seq, .slice A b.recs.length c] 24) := ⟨_, rfl⟩
  rw [← hw1]
  have hbk : Blk w1 w.heap.size 24 #[.int .i64 b.base, .int .i64 b.last, .int .i64 b.prod, .int .i64 b.epoch, .int .i64 b.seq, .slice A b.recs.length c] := by rw [hw1]; exact Blk.new _ _ _
  have hb1 : Below w.heap.size w w1 := by rw [hw1]; exact (Below.refl _ w).alloc (Nat.le_refl _) _
  clear hw1
  refine (HTM.out w1 hb1).mono ?_
  rintro e w2 ⟨rfl, hb2⟩
  have HBK := Lib.hid ((chg_of (P := fun _ => False) hb2).blk hbk id)
  have HB2 := Lib.hid (hb1.trans (hb2.mono hb1.size)); clear hb1 hb2 hbk
  obtain ⟨F, hF⟩ : ∃ F, F = Bat.first b.recs := ⟨_, rfl⟩
  rw [← hF] at hfirst ⊢
  have HF := Lib.hid hF; clear hF
  have c5 : w2.cell? ⟨w.heap.size, 5, none⟩ = some (.slice A b.recs.length c) := HBK.out.cell 5 rfl
  go_wp2_with fail
  go_loopw [5, 17] (fun n i wr => ∃ j : Nat, j ≤ b.recs.length ∧ i = .int .i64 (j : Int) ∧ n = .int .i64 (50 + Bat.sum F b.base (b.recs.take j)) ∧ Below w2.heap.size w2 wr) (fun _ i _ => b.recs.length - (intOf i).toNat)
  case atStart => exact ⟨0, by omega, rfl, rfl, Below.refl _ _⟩
  case round =>
    obtain ⟨j, hj, rfl, rfl, hbw⟩ := hrel
    have HBW := Lib.hid hbw; clear hbw
    have hs := Bat.sum_le F b.base (b.recs.take j) fun r hr => HOK.out r (List.mem_of_mem_take hr)
    rw [List.length_take, Nat.min_eq_left hj] at hs
    by_cases hlt : j < b.recs.length
    · obtain ⟨x, hx⟩ : ∃ x, b.recs[j]? = some x := ⟨_, List.getElem?_eq_getElem hlt⟩
      obtain ⟨p, off, c', kv, vv, hA, -, -, hp, d0, d1, d2, d3, d4, d5, hk, hvv, -, -⟩ := (HV.out.below (HB2.out.trans (HBW.out.mono HB2.out.size)) (Nat.le_refl _)).at' hx
      obtain ⟨rfl, rfl⟩ : A = some ⟨p, off, none⟩ ∧ c = c' := by simpa using hA
      obtain ⟨Ak, ck, rfl, -, -, -, -⟩ := hk
      obtain ⟨Av, cv, rfl, -, -, -, -⟩ := hvv
      have hxo := HOK.out x (List.mem_of_getElem? hx)
      have hst := Bat.sum_succ F b.base b.recs j x hx
      have hbd := Rec.body_le hxo F b.base
      have hwd := num.widI_le (x.body F b.base)
      clear hA hx
      have hcall := fun wx => bat.body_any x Ak ck Av cv F b.base wx ⟨hxo.1, hxo.2.1⟩ hfirst ⟨hxo.2.2.1, hxo.2.2.2.1⟩ hb (by have := hxo.2.2.2.2.1; omega) (by have := hxo.2.2.2.2.2; omega)
      unfold Rec.hval at hcall
      obtain ⟨Y, hY⟩ : ∃ Y, Y = x.body F b.base := ⟨_, rfl⟩
      rw [← hY] at hst hbd hwd hcall
      have hszc := fun wx => num.size_any Y wx (by omega) (by omega)
      have e1 : num.wid (num.zig Y).toNat = num.widI Y := rfl
      rw [e1] at hszc
      clear e1 hY
      obtain ⟨Z, hZ⟩ : ∃ Z, Z = num.widI Y := ⟨_, rfl⟩
      rw [← hZ] at hst hwd hszc
      clear hZ
      obtain ⟨T, hT⟩ : ∃ T, T = Bat.sum F b.base (b.recs.take j) := ⟨_, rfl⟩
      rw [← hT] at hs hst ⊢
      clear hT
      have HST := Lib.hid hst; clear hst
      have HCALL := Lib.hid hcall; clear hcall
      have HSZC := Lib.hid hszc; clear hszc
      have HXO := Lib.hid hxo; clear hxo
      have hbk2 := (chg_of (P := fun _ => False) HBW.out).blk HBK.out id
      have c0 : wr.cell? ⟨w.heap.size, 0, none⟩ = some (.int .i64 b.base) := hbk2.cell 0 rfl
      have hsz2 : w.heap.size < wr.heap.size := hbk2.lt
      clear hbk2
      go_wp2_with fail
      refine (HCALL.out _).mono ?_
      rintro e w3 ⟨rfl, hb3⟩
      have HB3 := Lib.hid ((HBW.out.alloc HBW.out.size _).trans (hb3.mono (by have := HBW.out.size; simp; omega))); clear hb3
      go_wp2_with fail
      refine (HSZC.out w3).mono ?_
      rintro e w' ⟨rfl, rfl⟩
      go_wp2
      go_roundw
      case rel => exact ⟨j + 1, by omega, by go_num, num_eq (by rw [HST.out]; omega), HB3.out⟩
      case measure => simp [intOf]; omega
    · obtain rfl : j = b.recs.length := by omega
      have hans : b.size = 50 + Bat.sum F b.base (b.recs.take b.recs.length) := by rw [HSZ.out, HF.out, List.take_length]
      have HANS := Lib.hid hans; clear hans hs
      go_wp2
      go_ret
      exact ⟨by rw [HANS.out]; rfl, HB2.out.trans (HBW.out.mono HB2.out.size)⟩
end Go.Proofs.Ytndingohckcmdaa

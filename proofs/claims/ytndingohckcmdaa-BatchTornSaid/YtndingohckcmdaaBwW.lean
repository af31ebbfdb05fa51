/- The walk of the law BatchWrites. -/
import Derived.Test.YtndingohckcmdaaBwD
import Derived.Test.YtndingohckcmdaaBsC
import Derived.Test.YtndingohckcmdaaLmA
import Derived.Test.YtndingohckcmdaaBatW
namespace Go.Proofs.Ytndingohckcmdaa
open Go.RowKit

set_option maxRecDepth 20000 in
theorem bat.encode_err (b : Bat) (A : Option Addr) (c : Nat) (w : World) (hv : RecsV w (.slice A b.recs.length c) b.recs) (hc : b.check ≠ 0) :
    Calls Try.prog 13 #[b.hval A b.recs.length c] w fun e w' => e = .returned (.tuple #[.slice none 0 0, .int .i64 b.check]) ∧ Below w.heap.size w w' := by
  have HV := Lib.hid hv; clear hv
  have hck := fun wx (h : Below w.heap.size w wx) => bat.check_any b A c wx (HV.out.below h (Nat.le_refl _))
  obtain ⟨E, hE⟩ : ∃ E, E = b.check := ⟨_, rfl⟩
  rw [← hE] at hc ⊢
  have hd : (E != 0) = true := by simpa using hc
  rw [← hE] at hck
  have HCK := Lib.hid hck; clear hck hE hc
  unfold Bat.hval at *
  go_enter Try.func13, Try.ntmps13
  go_wp2_with fail
  have hb1 : Below w.heap.size w (w.alloc (.cells #[.int .i64 b.base, .int .i64 b.last, .int .i64 b.prod, .int .i64 b.epoch, .int .i64 b.seq, .slice A b.recs.length c] 24)) := (Below.refl _ w).alloc (Nat.le_refl _) _
  refine (HCK.out _ hb1).mono ?_
  rintro e w2 ⟨rfl, hb2⟩
  have HB2 := Lib.hid (hb1.trans (hb2.mono hb1.size)); clear hb1 hb2
  go_wp2
  go_ret2
  exact ⟨rfl, HB2.out⟩

set_option maxRecDepth 20000 in
theorem ref.encode_err (b : Bat) (A : Option Addr) (c : Nat) (w : World) (hv : RecsV w (.slice A b.recs.length c) b.recs) (hc : b.check ≠ 0) :
    Calls Try.prog 14 #[b.hval A b.recs.length c] w fun e w' => e = .returned (.tuple #[.slice none 0 0, .int .i64 b.check]) ∧ Below w.heap.size w w' := by
  have HV := Lib.hid hv; clear hv
  have hck := fun wx (h : Below w.heap.size w wx) => ref.check_any b A c wx (HV.out.below h (Nat.le_refl _))
  obtain ⟨E, hE⟩ : ∃ E, E = b.check := ⟨_, rfl⟩
  rw [← hE] at hc ⊢
  have hd : (E != 0) = true := by simpa using hc
  rw [← hE] at hck
  have HCK := Lib.hid hck; clear hck hE hc
  unfold Bat.hval at *
  go_enter Try.func14, Try.ntmps14
  go_wp2_with fail
  have hb1 : Below w.heap.size w (w.alloc (.cells #[.int .i64 b.base, .int .i64 b.last, .int .i64 b.prod, .int .i64 b.epoch, .int .i64 b.seq, .slice A b.recs.length c] 24)) := (Below.refl _ w).alloc (Nat.le_refl _) _
  refine (HCK.out _ hb1).mono ?_
  rintro e w2 ⟨rfl, hb2⟩
  have HB2 := Lib.hid (hb1.trans (hb2.mono hb1.size)); clear hb1 hb2
  go_wp2
  go_ret2
  exact ⟨rfl, HB2.out⟩

set_option maxRecDepth 20000 in
theorem ref.Encode_any (b : Bat) (A : Option Addr) (c : Nat) (w : World) (hv : RecsV w (.slice A b.recs.length c) b.recs) (hc : b.check = 0) :
    Calls Try.prog 14 #[b.hval A b.recs.length c] w fun e w' => ∃ v, e = .returned (.tuple #[v, .int .i64 0]) ∧ Acc w v b.bytes w' := by
  have HV := Lib.hid hv; clear hv
  obtain ⟨hmay, h100, hok, -⟩ := Bat.check_ok hc
  have hfl := Bat.flags_of hc
  have hck := fun wx (h : Below w.heap.size w wx) => ref.check_any b A c wx (HV.out.below h (Nat.le_refl _))
  have henc := fun wx (h : Below w.heap.size w wx) => ref.encode_any b A c wx (HV.out.below h (Nat.le_refl _)) hmay h100 hok hfl
  rw [hc] at hck
  have HCK := Lib.hid hck; clear hck hc
  have HENC := Lib.hid henc; clear henc hmay h100 hok hfl
  unfold Bat.hval at *
  go_enter Try.func14, Try.ntmps14
  go_wp2_with fail
  obtain ⟨w1, hw1⟩ : ∃ w1, w1 = w.alloc (.cells #[.int .i64 b.base, .int .i64 b.last, .int .i64 b.prod, .int .i64 b.epoch, .int .i64 b.seq, .slice A b.recs.length c] 24) := ⟨_, rfl⟩
  rw [← hw1]
  have hbk : Blk w1 w.heap.size 24 #[.int .i64 b.base, .int .i64 b.last, .int .i64 b.prod, .int .i64 b.epoch, .int .i64 b.seq, .slice A b.recs.length c] := by rw [hw1]; exact Blk.new _ _ _
  have hb1 : Below w.heap.size w w1 := by rw [hw1]; exact (Below.refl _ w).alloc (Nat.le_refl _) _
  clear hw1
  refine (HCK.out w1 hb1).mono ?_
  rintro e w2 ⟨rfl, hb2⟩
  have hbk2 := (chg_of (P := fun _ => False) hb2).blk hbk id
  have q0 : w2.cell? ⟨w.heap.size, 0, none⟩ = some (.int .i64 b.base) := hbk2.cell 0 rfl
  have q1 : w2.cell? ⟨w.heap.size, 1, none⟩ = some (.int .i64 b.last) := hbk2.cell 1 rfl
  have q2 : w2.cell? ⟨w.heap.size, 2, none⟩ = some (.int .i64 b.prod) := hbk2.cell 2 rfl
  have q3 : w2.cell? ⟨w.heap.size, 3, none⟩ = some (.int .i64 b.epoch) := hbk2.cell 3 rfl
  have q4 : w2.cell? ⟨w.heap.size, 4, none⟩ = some (.int .i64 b.seq) := hbk2.cell 4 rfl
  have q5 : w2.cell? ⟨w.heap.size, 5, none⟩ = some (.slice A b.recs.length c) := hbk2.cell 5 rfl
  have HB2 := Lib.hid (hb1.trans (hb2.mono hb1.size)); clear hb1 hb2 hbk hbk2
  go_wp2_with fail
  refine (HENC.out w2 HB2.out).mono ?_
  rintro e w3 ⟨v, rfl, ha⟩
  have HA := Lib.hid ha; clear ha
  go_wp2
  go_ret2
  exact ⟨v, rfl, HA.out.up HB2.out⟩

set_option maxRecDepth 20000 in
set_option maxHeartbeats 2000000 in
theorem ref.times_any (b : Bat) (A : Option Addr) (c : Nat) (w : World) (hv : RecsV w (.slice A b.recs.length c) b.recs) :
    Calls Try.prog 16 #[b.hval A b.recs.length c] w fun e w' => e = .returned (.tuple #[.int .i64 (Bat.first b.recs), .int .i64 (Bat.mostT b.recs)]) ∧ Below w.heap.size w w' := by
  have hlen : b.recs.length ≤ maxLen := by
    obtain ⟨A', c', V, h, h1, h2, -⟩ := hv
    exact Nat.le_trans h1 h2
  unfold maxLen at hlen
  have HV := Lib.hid hv; clear hv
  unfold Bat.hval
  go_enter Try.func16, Try.ntmps16
  go_wp2_with fail
  obtain ⟨w1, hw1⟩ : ∃ w1, w1 = w.alloc (.cells #[.int .i64 b.base, .int .i64 b.last, .int .i64 b.prod, .int .i64 b.epoch, .int .i64 b.seq, .slice A b.recs.length c] 24) := ⟨_, rfl⟩
  rw [← hw1]
  have hbk : Blk w1 w.heap.size 24 #[.int .i64 b.base, .int .i64 b.last, .int .i64 b.prod, .int .i64 b.epoch, .int .i64 b.seq, .slice A b.recs.length c] := by rw [hw1]; exact Blk.new _ _ _
  have hb1 : Below w.heap.size w w1 := by rw [hw1]; exact (Below.refl _ w).alloc (Nat.le_refl _) _
  have hlt1 : w.heap.size < w1.heap.size := hbk.lt
  have c5 : w1.cell? ⟨w.heap.size, 5, none⟩ = some (.slice A b.recs.length c) := hbk.cell 5 rfl
  clear hw1
  have HB1 := Lib.hid hb1; clear hb1 hbk
  go_loopw [4, 5, 6] (fun f m i wr => ∃ j : Nat, j ≤ b.recs.length ∧ i = .int .i64 (j : Int) ∧ ((j = 0 ∧ f = .int .i64 0 ∧ m = .int .i64 0) ∨ (0 < j ∧ f = .int .i64 (Bat.first b.recs) ∧ m = .int .i64 (Bat.mostTo b.recs j))) ∧ wr = w1) (fun _ _ i _ => b.recs.length - (intOf i).toNat)
  case atStart => exact ⟨0, by omega, rfl, .inl ⟨rfl, rfl, rfl⟩, rfl⟩
  case round =>
    obtain ⟨j, hj, rfl, hfm, rfl⟩ := hrel
    by_cases hlt : j < b.recs.length
    · obtain ⟨x, hx⟩ : ∃ x, b.recs[j]? = some x := ⟨_, List.getElem?_eq_getElem hlt⟩
      obtain ⟨p, off, c', kv, vv, hA, -, -, hp, d0, d1, d2, d3, d4, d5, hk, hvv, -, -⟩ := (HV.out.below HB1.out (Nat.le_refl _)).at' hx
      obtain ⟨rfl, rfl⟩ : A = some ⟨p, off, none⟩ ∧ c = c' := by simpa using hA
      clear hk hvv d0 d2 d3 d4 d5
      have HM := Lib.hid (Bat.mostTo_succ b.recs j x hx)
      have HX := Lib.hid hx; clear hx hA
      rcases hfm with ⟨rfl, rfl, rfl⟩ | ⟨hj0, rfl, rfl⟩
      · have hF := Bat.first_zero b.recs x HX.out
        have HF := Lib.hid hF; clear hF
        have hM0 : Bat.mostTo b.recs 1 = x.time := by rw [HM.out]; unfold Bat.mostTo; rw [HF.out]; simp
        have HM0 := Lib.hid hM0; clear hM0
        rw [Nat.zero_mul, Nat.add_zero] at d1
        go_wp2
        all_goals
          go_roundw
          case rel => exact ⟨1, by omega, by go_num, .inr ⟨by omega, by rw [HF.out], by first | (rw [HM0.out]; done) | (rw [HM0.out]; refine num_eq ?_; omega)⟩, by trivial⟩
          case measure => simp [intOf]; omega
      · have hd : ((j : Int) == 0) = false := by simp; omega
        generalize Bat.mostTo b.recs j = M at *
        go_wp2
        all_goals
          go_roundw
          case rel => exact ⟨j + 1, by omega, by go_num, .inr ⟨by omega, rfl, by rw [HM.out]; refine num_eq ?_; omega⟩, by trivial⟩
          case measure => simp [intOf]; omega
    · obtain rfl : j = b.recs.length := by omega
      rcases hfm with ⟨h0, rfl, rfl⟩ | ⟨hj0, rfl, rfl⟩
      · have hnil : b.recs = [] := List.length_eq_zero_iff.1 h0
        have hF : Bat.first b.recs = 0 := by rw [hnil]; rfl
        have hM : Bat.mostT b.recs = 0 := by rw [hnil]; rfl
        have HF := Lib.hid hF; clear hF
        have HM := Lib.hid hM; clear hM hnil
        clear h0
        go_wp2
        go_ret2
        exact ⟨by rw [HF.out, HM.out]; rfl, HB1.out⟩
      · go_wp2
        go_ret2
        exact ⟨rfl, HB1.out⟩

/-- A batch's bytes, none if it may not be. -/
def Bat.enc (b : Bat) : List Nat := if b.check = 0 then b.bytes else []
theorem Bat.enc_len (b : Bat) : b.sizeof = (b.enc.length : Int) := by
  unfold Bat.sizeof Bat.enc
  by_cases h : b.check = 0
  · rw [if_pos h, if_pos h]
    exact (Bat.bytes_len b (Bat.flags_of h)).symm
  · rw [if_neg h, if_neg h]
    rfl
theorem Bat.enc_le (b : Bat) : b.enc.length ≤ 65536 := by
  have h := Bat.enc_len b
  unfold Bat.sizeof at h
  by_cases hc : b.check = 0
  · rw [if_pos hc] at h
    have := (Bat.check_ok hc).2.2.2
    omega
  · rw [if_neg hc] at h
    omega
theorem recsSame_self : ∀ rs : List Rec, recsSame rs rs = true
  | [] => rfl
  | r :: rs => by
    show (decide (r.Same r) && recsSame rs rs) = true
    rw [recsSame_self rs, decide_eq_true (show r.Same r from ⟨rfl, rfl, rfl, rfl, rfl, rfl⟩)]
    rfl
theorem Bat.same_self (b : Bat) : b.same b = true := by
  unfold Bat.same
  rw [recsSame_self, decide_eq_true (show b.heads b from ⟨rfl, rfl, rfl, rfl, rfl⟩)]
  rfl
theorem bat.encode_all (b : Bat) (A : Option Addr) (c : Nat) (w : World) (hv : RecsV w (.slice A b.recs.length c) b.recs) :
    Calls Try.prog 13 #[b.hval A b.recs.length c] w fun e w' => (∃ A' c', e = .returned (.tuple #[.slice A' b.enc.length c', .int .i64 b.check]) ∧ At w' A' b.enc.length (byteAt b.enc)) ∧ Below w.heap.size w w' := by
  by_cases h : b.check = 0
  · have he : b.enc = b.bytes := by unfold Bat.enc; rw [if_pos h]
    refine (bat.encode_any b A c w hv h).mono ?_
    rintro e w' ⟨⟨v, rfl, ho⟩, hb⟩
    obtain ⟨A', c', rfl, -, -, hat⟩ := own_bytes ho
    exact ⟨⟨A', c', by rw [he, h], by rw [he]; exact hat⟩, hb⟩
  · have he : b.enc = [] := by unfold Bat.enc; rw [if_neg h]
    refine (bat.encode_err b A c w hv h).mono ?_
    rintro e w' ⟨rfl, hb⟩
    exact ⟨⟨none, 0, by rw [he]; rfl, by rw [he]; exact fun h => absurd h (Nat.lt_irrefl 0)⟩, hb⟩
theorem ref.encode_all (b : Bat) (A : Option Addr) (c : Nat) (w : World) (hv : RecsV w (.slice A b.recs.length c) b.recs) :
    Calls Try.prog 14 #[b.hval A b.recs.length c] w fun e w' => (∃ A' c', e = .returned (.tuple #[.slice A' b.enc.length c', .int .i64 b.check]) ∧ At w' A' b.enc.length (byteAt b.enc)) ∧ Below w.heap.size w w' := by
  by_cases h : b.check = 0
  · have he : b.enc = b.bytes := by unfold Bat.enc; rw [if_pos h]
    refine (ref.Encode_any b A c w hv h).mono ?_
    rintro e w' ⟨v, rfl, ho⟩
    obtain ⟨A', c', rfl, -, hat⟩ := ho.at'
    exact ⟨⟨A', c', by rw [he, h], by rw [he]; exact hat⟩, ho.2⟩
  · have he : b.enc = [] := by unfold Bat.enc; rw [if_neg h]
    refine (ref.encode_err b A c w hv h).mono ?_
    rintro e w' ⟨rfl, hb⟩
    exact ⟨⟨none, 0, by rw [he]; rfl, by rw [he]; exact fun h => absurd h (Nat.lt_irrefl 0)⟩, hb⟩

set_option maxRecDepth 20000 in
set_option maxHeartbeats 4000000 in
theorem bat.lawWrites (b : Bat) (A : Option Addr) (c : Nat) (w : World) (hv : RecsV w (.slice A b.recs.length c) b.recs) :
    Calls Try.prog 3 #[b.hval A b.recs.length c] w fun e w' => e = .returned (.bool true) ∧ Below w.heap.size w w' := by
  have hlen : b.recs.length ≤ maxLen := by
    obtain ⟨A', c', V, h, h1, h2, -⟩ := hv
    exact Nat.le_trans h1 h2
  unfold maxLen at hlen
  have HV := Lib.hid hv; clear hv
  have hgo : ∀ wx, Calls Try.prog 12 #[] wx fun e w' => e = .returned (.bool true) ∧ Below wx.heap.size wx w' := law5.awake
  have HGO := Lib.hid hgo; clear hgo
  have hwg := fun wx (h : Below w.heap.size w wx) => alike.batch_any b _ wx (HV.out.below h (Nat.le_refl _))
  have henp := fun wx (h : Below w.heap.size w wx) => bat.encode_all b A c wx (HV.out.below h (Nat.le_refl _))
  have henq := fun wx (h : Below w.heap.size w wx) => ref.encode_all b A c wx (HV.out.below h (Nat.le_refl _))
  have htmp := fun wx (h : Below w.heap.size w wx) => bat.times_any b A c wx (HV.out.below h (Nat.le_refl _))
  have htmq := fun wx (h : Below w.heap.size w wx) => ref.times_any b A c wx (HV.out.below h (Nat.le_refl _))
  have hckp := fun wx (h : Below w.heap.size w wx) => bat.check_any b A c wx (HV.out.below h (Nat.le_refl _))
  have hckq := fun wx (h : Below w.heap.size w wx) => ref.check_any b A c wx (HV.out.below h (Nat.le_refl _))
  have hszp := fun wx (h : Below w.heap.size w wx) => bat.sizeof_any b A c wx (HV.out.below h (Nat.le_refl _))
  have hsam := fun wx (h : Below w.heap.size w wx) => bat.same_any b b A c A c wx (HV.out.below h (Nat.le_refl _)) (HV.out.below h (Nat.le_refl _))
  rw [Bat.enc_len] at hszp
  rw [Bat.same_self] at hsam
  have hel := Bat.enc_le b
  obtain ⟨L, hL⟩ : ∃ L, L = b.enc := ⟨_, rfl⟩
  obtain ⟨n, hn⟩ : ∃ n, n = L.length := ⟨_, rfl⟩
  obtain ⟨E, hE⟩ : ∃ E, E = b.check := ⟨_, rfl⟩
  obtain ⟨F, hF⟩ : ∃ F, F = Bat.first b.recs := ⟨_, rfl⟩
  obtain ⟨M, hM⟩ : ∃ M, M = Bat.mostT b.recs := ⟨_, rfl⟩
  obtain ⟨W, hW⟩ : ∃ W, W = b.weight := ⟨_, rfl⟩
  rw [← hL, ← hn] at henp henq
  rw [← hL, ← hn] at hszp
  rw [← hL, ← hn] at hel
  rw [← hE] at henp henq hckp hckq
  rw [← hF, ← hM] at htmp htmq
  rw [← hW] at hwg
  clear hL hE hF hM hW
  have HN := Lib.hid hn.symm; clear hn
  unfold Bat.hval at *
  have HWG := Lib.hid hwg; clear hwg
  have HENP := Lib.hid henp; clear henp
  have HENQ := Lib.hid henq; clear henq
  have HTMP := Lib.hid htmp; clear htmp
  have HTMQ := Lib.hid htmq; clear htmq
  have HCKP := Lib.hid hckp; clear hckp
  have HCKQ := Lib.hid hckq; clear hckq
  have HSZP := Lib.hid hszp; clear hszp
  have HSAM := Lib.hid hsam; clear hsam
  go_enter Try.func3, Try.ntmps3
  go_wp2_with fail
  obtain ⟨w1, hw1⟩ : ∃ w1, w1 = w.alloc (.cells #[.int .i64 b.base, .int .i64 b.last, .int .i64 b.prod, .int .i64 b.epoch, .int .i64 b.seq, .slice A b.recs.length c] 24) := ⟨_, rfl⟩
  rw [← hw1]
  have hbk : Blk w1 w.heap.size 24 #[.int .i64 b.base, .int .i64 b.last, .int .i64 b.prod, .int .i64 b.epoch, .int .i64 b.seq, .slice A b.recs.length c] := by rw [hw1]; exact Blk.new _ _ _
  have hb1 : Below w.heap.size w w1 := by rw [hw1]; exact (Below.refl _ w).alloc (Nat.le_refl _) _
  clear hw1
  have HBK := Lib.hid hbk; clear hbk
  have HB1 := Lib.hid hb1; clear hb1
  have hcells : ∀ x : Later w1 (fun _ => False), ∀ j v, (#[.int .i64 b.base, .int .i64 b.last, .int .i64 b.prod, .int .i64 b.epoch, .int .i64 b.seq, .slice A b.recs.length c] : Array Value)[j]? = some v → x.1.cell? ⟨w.heap.size, j, none⟩ = some v := fun x j v h => (x.2.blk HBK.out id).cell j h
  have HCELLS := Lib.hid hcells; clear hcells
  refine (HWG.out w1 HB1.out).mono ?_
  rintro e w2 ⟨rfl, hb2⟩
  have HL2 := Lib.hid hb2; clear hb2
  have c0 : w2.cell? ⟨w.heap.size, 0, none⟩ = some (.int .i64 b.base) := HCELLS.out ⟨w2, chg_of HL2.out⟩ 0 _ rfl
  have c1 : w2.cell? ⟨w.heap.size, 1, none⟩ = some (.int .i64 b.last) := HCELLS.out ⟨w2, chg_of HL2.out⟩ 1 _ rfl
  have c2 : w2.cell? ⟨w.heap.size, 2, none⟩ = some (.int .i64 b.prod) := HCELLS.out ⟨w2, chg_of HL2.out⟩ 2 _ rfl
  have c3 : w2.cell? ⟨w.heap.size, 3, none⟩ = some (.int .i64 b.epoch) := HCELLS.out ⟨w2, chg_of HL2.out⟩ 3 _ rfl
  have c4 : w2.cell? ⟨w.heap.size, 4, none⟩ = some (.int .i64 b.seq) := HCELLS.out ⟨w2, chg_of HL2.out⟩ 4 _ rfl
  have c5 : w2.cell? ⟨w.heap.size, 5, none⟩ = some (.slice A b.recs.length c) := HCELLS.out ⟨w2, chg_of HL2.out⟩ 5 _ rfl
  by_cases hsm : 5000 < W ∨ 200 < b.recs.length
  · have hsm2 : 5000 < W ∨ (¬ 5000 < W ∧ 200 < b.recs.length) := by omega
    clear hsm
    rcases hsm2 with h1 | ⟨h1, h2⟩
    all_goals
      go_wp2_with fail
      refine (HGO.out w2).mono ?_
      rintro e w3 ⟨rfl, hb3⟩
      have HL3 := Lib.hid (HL2.out.trans (hb3.mono HL2.out.size)); clear hb3
      go_wp2
      go_ret
      exact ⟨rfl, HB1.out.trans (HL3.out.mono HB1.out.size)⟩
  · have h1 : ¬ 5000 < W := by omega
    have h2 : ¬ 200 < b.recs.length := by omega
    clear hsm
    go_wp2_with fail
    refine (HENP.out w2 (HB1.out.trans (HL2.out.mono HB1.out.size))).mono ?_
    rintro e w3 ⟨⟨Ap, cp, rfl, hatp⟩, hb3⟩
    have HL3 := Lib.hid (HL2.out.trans (hb3.mono HL2.out.size)); clear hb3
    have HATP := Lib.hid hatp; clear hatp c0 c1 c2 c3 c4 c5
    have c0 : w3.cell? ⟨w.heap.size, 0, none⟩ = some (.int .i64 b.base) := HCELLS.out ⟨w3, chg_of HL3.out⟩ 0 _ rfl
    have c1 : w3.cell? ⟨w.heap.size, 1, none⟩ = some (.int .i64 b.last) := HCELLS.out ⟨w3, chg_of HL3.out⟩ 1 _ rfl
    have c2 : w3.cell? ⟨w.heap.size, 2, none⟩ = some (.int .i64 b.prod) := HCELLS.out ⟨w3, chg_of HL3.out⟩ 2 _ rfl
    have c3 : w3.cell? ⟨w.heap.size, 3, none⟩ = some (.int .i64 b.epoch) := HCELLS.out ⟨w3, chg_of HL3.out⟩ 3 _ rfl
    have c4 : w3.cell? ⟨w.heap.size, 4, none⟩ = some (.int .i64 b.seq) := HCELLS.out ⟨w3, chg_of HL3.out⟩ 4 _ rfl
    have c5 : w3.cell? ⟨w.heap.size, 5, none⟩ = some (.slice A b.recs.length c) := HCELLS.out ⟨w3, chg_of HL3.out⟩ 5 _ rfl
    go_wp2_with fail
    refine (HENQ.out w3 (HB1.out.trans (HL3.out.mono HB1.out.size))).mono ?_
    rintro e w4 ⟨⟨Aq, cq, rfl, hatq⟩, hb4⟩
    have HATP4 := Lib.hid (HATP.out.below hb4 (Nat.le_refl _)); clear HATP
    have HL4 := Lib.hid (HL3.out.trans (hb4.mono HL3.out.size)); clear hb4
    have HATQ := Lib.hid hatq; clear hatq c0 c1 c2 c3 c4 c5
    have c0 : w4.cell? ⟨w.heap.size, 0, none⟩ = some (.int .i64 b.base) := HCELLS.out ⟨w4, chg_of HL4.out⟩ 0 _ rfl
    have c1 : w4.cell? ⟨w.heap.size, 1, none⟩ = some (.int .i64 b.last) := HCELLS.out ⟨w4, chg_of HL4.out⟩ 1 _ rfl
    have c2 : w4.cell? ⟨w.heap.size, 2, none⟩ = some (.int .i64 b.prod) := HCELLS.out ⟨w4, chg_of HL4.out⟩ 2 _ rfl
    have c3 : w4.cell? ⟨w.heap.size, 3, none⟩ = some (.int .i64 b.epoch) := HCELLS.out ⟨w4, chg_of HL4.out⟩ 3 _ rfl
    have c4 : w4.cell? ⟨w.heap.size, 4, none⟩ = some (.int .i64 b.seq) := HCELLS.out ⟨w4, chg_of HL4.out⟩ 4 _ rfl
    have c5 : w4.cell? ⟨w.heap.size, 5, none⟩ = some (.slice A b.recs.length c) := HCELLS.out ⟨w4, chg_of HL4.out⟩ 5 _ rfl
    go_wp2_with fail
    refine (HTMP.out w4 (HB1.out.trans (HL4.out.mono HB1.out.size))).mono ?_
    rintro e w5 ⟨rfl, hb5⟩
    have HATP5 := Lib.hid (HATP4.out.below hb5 (Nat.le_refl _)); clear HATP4
    have HATQ5 := Lib.hid (HATQ.out.below hb5 (Nat.le_refl _)); clear HATQ
    have HL5 := Lib.hid (HL4.out.trans (hb5.mono HL4.out.size)); clear hb5 c0 c1 c2 c3 c4 c5
    have c0 : w5.cell? ⟨w.heap.size, 0, none⟩ = some (.int .i64 b.base) := HCELLS.out ⟨w5, chg_of HL5.out⟩ 0 _ rfl
    have c1 : w5.cell? ⟨w.heap.size, 1, none⟩ = some (.int .i64 b.last) := HCELLS.out ⟨w5, chg_of HL5.out⟩ 1 _ rfl
    have c2 : w5.cell? ⟨w.heap.size, 2, none⟩ = some (.int .i64 b.prod) := HCELLS.out ⟨w5, chg_of HL5.out⟩ 2 _ rfl
    have c3 : w5.cell? ⟨w.heap.size, 3, none⟩ = some (.int .i64 b.epoch) := HCELLS.out ⟨w5, chg_of HL5.out⟩ 3 _ rfl
    have c4 : w5.cell? ⟨w.heap.size, 4, none⟩ = some (.int .i64 b.seq) := HCELLS.out ⟨w5, chg_of HL5.out⟩ 4 _ rfl
    have c5 : w5.cell? ⟨w.heap.size, 5, none⟩ = some (.slice A b.recs.length c) := HCELLS.out ⟨w5, chg_of HL5.out⟩ 5 _ rfl
    go_wp2_with fail
    refine (HTMQ.out w5 (HB1.out.trans (HL5.out.mono HB1.out.size))).mono ?_
    rintro e w6 ⟨rfl, hb6⟩
    have hatp6 := HATP5.out.below hb6 (Nat.le_refl _)
    have hatq6 := HATQ5.out.below hb6 (Nat.le_refl _)
    have HL6 := Lib.hid (HL5.out.trans (hb6.mono HL5.out.size)); clear hb6 c0 c1 c2 c3 c4 c5
    have hcvp : ∀ x : Later w6 (fun _ => False), (convert 27 9 (.slice Ap n cp)).run Try.prog x.1 = .ok (.string (strOf L)) x.1 := fun x => conv_any (P := Try.prog) (c := cp) Try.underlying27 Try.underlying5 Try.underlying9 L HN.out (hatp6.below (x.2.below (Nat.le_refl _) (fun _ q => q.elim)) (Nat.le_refl _))
    have hcvq : ∀ x : Later w6 (fun _ => False), (convert 27 9 (.slice Aq n cq)).run Try.prog x.1 = .ok (.string (strOf L)) x.1 := fun x => conv_any (P := Try.prog) (c := cq) Try.underlying27 Try.underlying5 Try.underlying9 L HN.out (hatq6.below (x.2.below (Nat.le_refl _) (fun _ q => q.elim)) (Nat.le_refl _))
    have HCVQ := Lib.hid hcvq; clear hcvq hatp6 hatq6 HATP5 HATQ5
    have p0 : ∀ x : Later w6 (fun _ => False), x.1.cell? ⟨w.heap.size, 0, none⟩ = some (.int .i64 b.base) := fun x => HCELLS.out ⟨x.1, (chg_of HL6.out).trans x.2 (fun _ _ h => h)⟩ 0 _ rfl
    have p1 : ∀ x : Later w6 (fun _ => False), x.1.cell? ⟨w.heap.size, 1, none⟩ = some (.int .i64 b.last) := fun x => HCELLS.out ⟨x.1, (chg_of HL6.out).trans x.2 (fun _ _ h => h)⟩ 1 _ rfl
    have p2 : ∀ x : Later w6 (fun _ => False), x.1.cell? ⟨w.heap.size, 2, none⟩ = some (.int .i64 b.prod) := fun x => HCELLS.out ⟨x.1, (chg_of HL6.out).trans x.2 (fun _ _ h => h)⟩ 2 _ rfl
    have p3 : ∀ x : Later w6 (fun _ => False), x.1.cell? ⟨w.heap.size, 3, none⟩ = some (.int .i64 b.epoch) := fun x => HCELLS.out ⟨x.1, (chg_of HL6.out).trans x.2 (fun _ _ h => h)⟩ 3 _ rfl
    have p4 : ∀ x : Later w6 (fun _ => False), x.1.cell? ⟨w.heap.size, 4, none⟩ = some (.int .i64 b.seq) := fun x => HCELLS.out ⟨x.1, (chg_of HL6.out).trans x.2 (fun _ _ h => h)⟩ 4 _ rfl
    have p5 : ∀ x : Later w6 (fun _ => False), x.1.cell? ⟨w.heap.size, 5, none⟩ = some (.slice A b.recs.length c) := fun x => HCELLS.out ⟨x.1, (chg_of HL6.out).trans x.2 (fun _ _ h => h)⟩ 5 _ rfl
    go_wp2_with fail
    have hS0 : later w6 (fun _ => False) w6.drew := later_of ((Chg.refl _ _).drew)
    refine wp_plan (S := fun w0 => ∃ x : Later w6 (fun _ => False), w0 = x.1) (by kernel_rfl) hS0 ?_
    intro hS K hK
    have HS := Lib.hid hS; clear hS hS0
    refine plan_group [true, false, true] [0, 2] 41 (by dsimp only [sel]) (by rfl) rfl (by kernel_rfl) (by kernel_rfl) HS.out ?_
    (repeat go_big_quiet_step (fail)); refine wpQuiet_nil ?_
    refine plan_one [false, true] 1 40 (by dsimp only [sel]) (by rfl) rfl (by kernel_rfl) ?_; intro K1 hK1; go_wp2_with fail
    refine (HCKP.out _ (HB1.out.trans ((HL6.out.trans ((bdrew (Below.refl w6.heap.size w6) 1).mono HL6.out.size)).mono HB1.out.size))).mono ?_
    rintro e z1 ⟨rfl, hz⟩
    have HZ1 := Lib.hid (show Below w6.heap.size w6 z1 from (bdrew (Below.refl w6.heap.size w6) 1).trans (hz.mono (bdrew (Below.refl w6.heap.size w6) 1).size)); clear hz
    go_wp2_with fail
    refine ⟨(later_of (chg_of HZ1.out)), ?_⟩
    refine plan_one [false, false, false, true] 3 39 (by dsimp only [sel]) (by rfl) rfl (by kernel_rfl) ?_; intro K1 hK1; go_wp2_with fail
    refine (HCKQ.out _ (HB1.out.trans ((HL6.out.trans (HZ1.out.mono HL6.out.size)).mono HB1.out.size))).mono ?_
    rintro e z2 ⟨rfl, hz⟩
    have HZ2 := Lib.hid (show Below w6.heap.size w6 z2 from HZ1.out.trans (hz.mono HZ1.out.size)); clear hz
    go_wp2_with fail
    refine ⟨(later_of (chg_of HZ2.out)), ?_⟩
    refine plan_group [false, false, false, false, true, true, true, true, true] [4, 5, 6, 7, 8] 34 (by dsimp only [sel]) (by rfl) rfl (by kernel_rfl) (by kernel_rfl) (later_of (chg_of HZ2.out)) ?_
    (repeat go_big_quiet_step (fail)); refine wpQuiet_nil ?_
    have hcv0 : (convert 27 9 (.slice Aq n cq)).run Try.prog z2 = .ok (.string (strOf L)) z2 := HCVQ.out ⟨z2, chg_of HZ2.out⟩
    refine plan_one [false, false, false, false, false, false, false, false, false, true] 9 33 (by dsimp only [sel]) (by rfl) rfl (by kernel_rfl) ?_; intro K1 hK1; go_wp2_with fail
    refine ⟨(later_of (chg_of HZ2.out)), ?_⟩
    clear hcv0 hcvp
    refine plan_group [false, false, false, false, false, false, false, false, false, false, true, true, true, true, true, true, true, true, false, false, true, true] [10, 11, 12, 13, 14, 15, 16, 17, 20, 21] 23 (by dsimp only [sel]) (by rfl) rfl (by kernel_rfl) (by kernel_rfl) (later_of (chg_of HZ2.out)) ?_
    (repeat go_big_quiet_step (fail)); refine wpQuiet_nil ?_
    have g0 : z2.cell? ⟨w.heap.size, 0, none⟩ = some (.int .i64 b.base) := p0 ⟨z2, chg_of HZ2.out⟩
    have g1 : z2.cell? ⟨w.heap.size, 1, none⟩ = some (.int .i64 b.last) := p1 ⟨z2, chg_of HZ2.out⟩
    have g2 : z2.cell? ⟨w.heap.size, 2, none⟩ = some (.int .i64 b.prod) := p2 ⟨z2, chg_of HZ2.out⟩
    have g3 : z2.cell? ⟨w.heap.size, 3, none⟩ = some (.int .i64 b.epoch) := p3 ⟨z2, chg_of HZ2.out⟩
    have g4 : z2.cell? ⟨w.heap.size, 4, none⟩ = some (.int .i64 b.seq) := p4 ⟨z2, chg_of HZ2.out⟩
    have g5 : z2.cell? ⟨w.heap.size, 5, none⟩ = some (.slice A b.recs.length c) := p5 ⟨z2, chg_of HZ2.out⟩
    refine plan_one [false, false, false, false, false, false, false, false, false, false, false, false, false, false, false, false, false, false, true] 18 22 (by dsimp only [sel]) (by rfl) rfl (by kernel_rfl) ?_; intro K1 hK1; go_wp2_with fail
    refine ⟨(later_of (chg_of HZ2.out)), ?_⟩
    clear g0 g1 g2 g3 g4 g5
    refine plan_one [false, false, false, false, false, false, false, false, false, false, false, false, false, false, false, false, false, false, false, true] 19 21 (by dsimp only [sel]) (by rfl) rfl (by kernel_rfl) ?_; intro K1 hK1; go_wp2_with fail
    refine (HSZP.out _ (HB1.out.trans ((HL6.out.trans (HZ2.out.mono HL6.out.size)).mono HB1.out.size))).mono ?_
    rintro e z3 ⟨rfl, hz⟩
    have HZ3 := Lib.hid (show Below w6.heap.size w6 z3 from HZ2.out.trans (hz.mono HZ2.out.size)); clear hz
    go_wp2_with fail
    refine ⟨(later_of (chg_of HZ3.out)), ?_⟩
    refine plan_group [false, false, false, false, false, false, false, false, false, false, false, false, false, false, false, false, false, false, false, false, false, false, true, true, true, true, true, true, true, true, true, true, true, true, true, true] [22, 23, 24, 25, 26, 27, 28, 29, 30, 31, 32, 33, 34, 35] 7 (by dsimp only [sel]) (by rfl) rfl (by kernel_rfl) (by kernel_rfl) (later_of (chg_of HZ3.out)) ?_
    (repeat go_big_quiet_step (fail)); refine wpQuiet_nil ?_
    have g0 : z3.cell? ⟨w.heap.size, 0, none⟩ = some (.int .i64 b.base) := p0 ⟨z3, chg_of HZ3.out⟩
    have g1 : z3.cell? ⟨w.heap.size, 1, none⟩ = some (.int .i64 b.last) := p1 ⟨z3, chg_of HZ3.out⟩
    have g2 : z3.cell? ⟨w.heap.size, 2, none⟩ = some (.int .i64 b.prod) := p2 ⟨z3, chg_of HZ3.out⟩
    have g3 : z3.cell? ⟨w.heap.size, 3, none⟩ = some (.int .i64 b.epoch) := p3 ⟨z3, chg_of HZ3.out⟩
    have g4 : z3.cell? ⟨w.heap.size, 4, none⟩ = some (.int .i64 b.seq) := p4 ⟨z3, chg_of HZ3.out⟩
    have g5 : z3.cell? ⟨w.heap.size, 5, none⟩ = some (.slice A b.recs.length c) := p5 ⟨z3, chg_of HZ3.out⟩
    refine plan_one [false, false, false, false, false, false, false, false, false, false, false, false, false, false, false, false, false, false, false, false, false, false, false, false, false, false, false, false, false, false, false, false, false, false, false, false, true] 36 6 (by dsimp only [sel]) (by rfl) rfl (by kernel_rfl) ?_; intro K1 hK1; go_wp2_with fail
    refine ⟨(later_of (chg_of HZ3.out)), ?_⟩
    clear g0 g1 g2 g3 g4 g5
    refine plan_one [false, false, false, false, false, false, false, false, false, false, false, false, false, false, false, false, false, false, false, false, false, false, false, false, false, false, false, false, false, false, false, false, false, false, false, false, false, true] 37 5 (by dsimp only [sel]) (by rfl) rfl (by kernel_rfl) ?_; intro K1 hK1; go_wp2_with fail
    refine (HSAM.out _ (HB1.out.trans ((HL6.out.trans (HZ3.out.mono HL6.out.size)).mono HB1.out.size))).mono ?_
    rintro e z4 ⟨rfl, hz⟩
    have HZ4 := Lib.hid (show Below w6.heap.size w6 z4 from HZ3.out.trans (hz.mono HZ3.out.size)); clear hz
    go_wp2_with fail
    refine ⟨(later_of (chg_of HZ4.out)), ?_⟩
    refine plan_group [false, false, false, false, false, false, false, false, false, false, false, false, false, false, false, false, false, false, false, false, false, false, false, false, false, false, false, false, false, false, false, false, false, false, false, false, false, false, true, true] [38, 39] 3 (by dsimp only [sel]) (by rfl) rfl (by kernel_rfl) (by kernel_rfl) (later_of (chg_of HZ4.out)) ?_
    (repeat go_big_quiet_step (fail)); refine wpQuiet_nil ?_
    refine plan_one [false, false, false, false, false, false, false, false, false, false, false, false, false, false, false, false, false, false, false, false, false, false, false, false, false, false, false, false, false, false, false, false, false, false, false, false, false, false, false, false, true] 40 2 (by dsimp only [sel]) (by rfl) rfl (by kernel_rfl) ?_; intro K1 hK1; go_wp2_with fail
    refine (HGO.out _).mono ?_
    rintro e z5 ⟨rfl, hz⟩
    have HZ5 := Lib.hid (show Below w6.heap.size w6 z5 from HZ4.out.trans (hz.mono HZ4.out.size)); clear hz
    go_wp2_with fail
    refine ⟨(later_of (chg_of HZ5.out)), ?_⟩
    refine plan_group [false, false, false, false, false, false, false, false, false, false, false, false, false, false, false, false, false, false, false, false, false, false, false, false, false, false, false, false, false, false, false, false, false, false, false, false, false, false, false, false, false, true, true] [41, 42] 0 (by dsimp only [sel]) (by rfl) rfl (by kernel_rfl) (by kernel_rfl) (later_of (chg_of HZ5.out)) ?_
    (repeat go_big_quiet_step (fail)); refine wpQuiet_nil ?_
    refine wp_plan_end (by kernel_rfl) ?_
    clear HS p0 p1 p2 p3 p4 p5
    refine hK _ _ ?_
    go_wp2
    go_ret
    exact ⟨rfl, HB1.out.trans ((HL6.out.trans (HZ5.out.mono HL6.out.size)).mono HB1.out.size)⟩
end Go.Proofs.Ytndingohckcmdaa

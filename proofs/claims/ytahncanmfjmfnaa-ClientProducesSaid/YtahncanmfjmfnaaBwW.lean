/- The walk of the law BatchWrites. -/
import Derived.Test.YtahncanmfjmfnaaBwD
import Derived.Test.YtahncanmfjmfnaaBsC
import Derived.Test.YtahncanmfjmfnaaLmA
import Derived.Test.YtahncanmfjmfnaaBatW
namespace Go.Proofs.Ytahncanmfjmfnaa
open Go.RowKit

set_option maxRecDepth 20000 in
theorem bat.encode_err (b : Bat) (A : Option Addr) (c : Nat) (w : World) (hv : RecsV w (.slice A b.recs.length c) b.recs) (hc : b.check ≠ 0) :
    Calls Try.prog 26 #[b.hval A b.recs.length c] w fun e w' => e = .returned (.tuple #[.slice none 0 0, .int .i64 b.check]) ∧ Below w.heap.size w w' := by
  have HV := Lib.hid hv; clear hv
  have hck := fun wx (h : Below w.heap.size w wx) => bat.check_any b A c wx (HV.out.below h (Nat.le_refl _))
  obtain ⟨E, hE⟩ : ∃ E, E = b.check := ⟨_, rfl⟩
  rw [← hE] at hc ⊢
  have hd : (E != 0) = true := by simpa using hc
  rw [← hE] at hck
  have HCK := Lib.hid hck; clear hck hE hc
  unfold Bat.hval at *
  go_enter Try.func26, Try.ntmps26
  go_wp2_with fail
  have hb1 : Below w.heap.size w (w.alloc (.cells #[.int .i64 b.base, .int .i64 b.last, .int .i64 b.prod, .int .i64 b.epoch, .int .i64 b.seq, .slice A b.recs.length c] 42)) := (Below.refl _ w).alloc (Nat.le_refl _) _
  refine (HCK.out _ hb1).mono ?_
  rintro e w2 ⟨rfl, hb2⟩
  have HB2 := Lib.hid (hb1.trans (hb2.mono hb1.size)); clear hb1 hb2
  go_wp2
  go_ret2
  exact ⟨rfl, HB2.out⟩

set_option maxRecDepth 20000 in
theorem ref.encode_err (b : Bat) (A : Option Addr) (c : Nat) (w : World) (hv : RecsV w (.slice A b.recs.length c) b.recs) (hc : b.check ≠ 0) :
    Calls Try.prog 14 #[b.hval A b.recs.length c] w fun e w' => e = .returned (.tuple #[.slice none 0 0, .int .i64 b.check]) ∧ Below w.heap.size w w' := by
  have HV := Lib.hid hv; clear hv
  have hck := fun wx (h : Below w.heap.size w wx) => ref.check_any b A c wx (HV.out.below h (Nat.le_refl _))
  obtain ⟨E, hE⟩ : ∃ E, E = b.check := ⟨_, rfl⟩
  rw [← hE] at hc ⊢
  have hd : (E != 0) = true := by simpa using hc
  rw [← hE] at hck
  have HCK := Lib.hid hck; clear hck hE hc
  unfold Bat.hval at *
  go_enter Try.func14, Try.ntmps14
  go_wp2_with fail
  have hb1 : Below w.heap.size w (w.alloc (.cells #[.int .i64 b.base, .int .i64 b.last, .int .i64 b.prod, .int .i64 b.epoch, .int .i64 b.seq, .slice A b.recs.length c] 42)) := (Below.refl _ w).alloc (Nat.le_refl _) _
  refine (HCK.out _ hb1).mono ?_
  rintro e w2 ⟨rfl, hb2⟩
  have HB2 := Lib.hid (hb1.trans (hb2.mono hb1.size)); clear hb1 hb2
  go_wp2
  go_ret2
  exact ⟨rfl, HB2.out⟩

set_option maxRecDepth 20000 in
theorem ref.Encode_any (b : Bat) (A : Option Addr) (c : Nat) (w : World) (hv : RecsV w (.slice A b.recs.length c) b.recs) (hc : b.check = 0) :
    Calls Try.prog 14 #[b.hval A b.recs.length c] w fun e w' => ∃ v, e = .returned (.tuple #[v, .int .i64 0]) ∧ Acc w v b.bytes w' := by
  have HV := Lib.hid hv; clear hv
  obtain ⟨hmay, h100, hok, -⟩ := Bat.check_ok hc
  have hfl := Bat.flags_of hc
  have hck := fun wx (h : Below w.heap.size w wx) => ref.check_any b A c wx (HV.out.below h (Nat.le_refl _))
  have henc := fun wx (h : Below w.heap.size w wx) => ref.encode_any b A c wx (HV.out.below h (Nat.le_refl _)) hmay h100 hok hfl
  rw [hc] at hck
  have HCK := Lib.hid hck; clear hck hc
  have HENC := Lib.hid henc; clear henc hmay h100 hok hfl
  unfold Bat.hval at *
  go_enter Try.func14, Try.ntmps14
  go_wp2_with fail
  obtain ⟨w1, hw1⟩ : ∃ w1, w1 = w.alloc (.cells #[.int .i64 b.base, .int .i64 b.last, .int .i64 b.prod, .int .i64 b.epoch, .int .i64 b.seq, .slice A b.recs.length c] 42) := ⟨_, rfl⟩
  rw [← hw1]
  have hbk : Blk w1 w.heap.size 42 #[.int .i64 b.base, .int .i64 b.last, .int .i64 b.prod, .int .i64 b.epoch, .int .i64 b.seq, .slice A b.recs.length c] := by rw [hw1]; exact Blk.new _ _ _
  have hb1 : Below w.heap.size w w1 := by rw [hw1]; exact (Below.refl _ w).alloc (Nat.le_refl _) _
  clear hw1
  refine (HCK.out w1 hb1).mono ?_
  rintro e w2 ⟨rfl, hb2⟩
  have hbk2 := (chg_of (P := fun _ => False) hb2).blk hbk id
  have q0 : w2.cell? ⟨w.heap.size, 0, none⟩ = some (.int .i64 b.base) := hbk2.cell 0 rfl
  have q1 : w2.cell? ⟨w.heap.size, 1, none⟩ = some (.int .i64 b.last) := hbk2.cell 1 rfl
  have q2 : w2.cell? ⟨w.heap.size, 2, none⟩ = some (.int .i64 b.prod) := hbk2.cell 2 rfl
  have q3 : w2.cell? ⟨w.heap.size, 3, none⟩ = some (.int .i64 b.epoch) := hbk2.cell 3 rfl
  have q4 : w2.cell? ⟨w.heap.size, 4, none⟩ = some (.int .i64 b.seq) := hbk2.cell 4 rfl
  have q5 : w2.cell? ⟨w.heap.size, 5, none⟩ = some (.slice A b.recs.length c) := hbk2.cell 5 rfl
  have HB2 := Lib.hid (hb1.trans (hb2.mono hb1.size)); clear hb1 hb2 hbk hbk2
  go_wp2_with fail
  refine (HENC.out w2 HB2.out).mono ?_
  rintro e w3 ⟨v, rfl, ha⟩
  have HA := Lib.hid ha; clear ha
  go_wp2
  go_ret2
  exact ⟨v, rfl, HA.out.up HB2.out⟩

/-- A batch's bytes, none if it may not be. -/
def Bat.enc (b : Bat) : List Nat := if b.check = 0 then b.bytes else []
theorem Bat.enc_len (b : Bat) : b.sizeof = (b.enc.length : Int) := by
  unfold Bat.sizeof Bat.enc
  by_cases h : b.check = 0
  · rw [if_pos h, if_pos h]
    exact (Bat.bytes_len b (Bat.flags_of h)).symm
  · rw [if_neg h, if_neg h]
    rfl
theorem Bat.enc_le (b : Bat) : b.enc.length ≤ 65536 := by
  have h := Bat.enc_len b
  unfold Bat.sizeof at h
  by_cases hc : b.check = 0
  · rw [if_pos hc] at h
    have := (Bat.check_ok hc).2.2.2
    omega
  · rw [if_neg hc] at h
    omega
theorem recsSame_self : ∀ rs : List Rec, recsSame rs rs = true
  | [] => rfl
  | r :: rs => by
    show (decide (r.Same r) && recsSame rs rs) = true
    rw [recsSame_self rs, decide_eq_true (show r.Same r from ⟨rfl, rfl, rfl, rfl, rfl, rfl⟩)]
    rfl
theorem Bat.same_self (b : Bat) : b.same b = true := by
  unfold Bat.same
  rw [recsSame_self, decide_eq_true (show b.heads b from ⟨rfl, rfl, rfl, rfl, rfl⟩)]
  rfl
theorem bat.encode_all (b : Bat) (A : Option Addr) (c : Nat) (w : World) (hv : RecsV w (.slice A b.recs.length c) b.recs) :
    Calls Try.prog 26 #[b.hval A b.recs.length c] w fun e w' => (∃ A' c', e = .returned (.tuple #[.slice A' b.enc.length c', .int .i64 b.check]) ∧ At w' A' b.enc.length (byteAt b.enc)) ∧ Below w.heap.size w w' := by
  by_cases h : b.check = 0
  · have he : b.enc = b.bytes := by unfold Bat.enc; rw [if_pos h]
    refine (bat.encode_any b A c w hv h).mono ?_
    rintro e w' ⟨⟨v, rfl, ho⟩, hb⟩
    obtain ⟨A', c', rfl, -, -, hat⟩ := own_bytes ho
    exact ⟨⟨A', c', by rw [he, h], by rw [he]; exact hat⟩, hb⟩
  · have he : b.enc = [] := by unfold Bat.enc; rw [if_neg h]
    refine (bat.encode_err b A c w hv h).mono ?_
    rintro e w' ⟨rfl, hb⟩
    exact ⟨⟨none, 0, by rw [he]; rfl, by rw [he]; exact fun h => absurd h (Nat.lt_irrefl 0)⟩, hb⟩
theorem ref.encode_all (b : Bat) (A : Option Addr) (c : Nat) (w : World) (hv : RecsV w (.slice A b.recs.length c) b.recs) :
    Calls Try.prog 14 #[b.hval A b.recs.length c] w fun e w' => (∃ A' c', e = .returned (.tuple #[.slice A' b.enc.length c', .int .i64 b.check]) ∧ At w' A' b.enc.length (byteAt b.enc)) ∧ Below w.heap.size w w' := by
  by_cases h : b.check = 0
  · have he : b.enc = b.bytes := by unfold Bat.enc; rw [if_pos h]
    refine (ref.Encode_any b A c w hv h).mono ?_
    rintro e w' ⟨v, rfl, ho⟩
    obtain ⟨A', c', rfl, -, hat⟩ := ho.at'
    exact ⟨⟨A', c', by rw [he, h], by rw [he]; exact hat⟩, ho.2⟩
  · have he : b.enc = [] := by unfold Bat.enc; rw [if_neg h]
    refine (ref.encode_err b A c w hv h).mono ?_
    rintro e w' ⟨rfl, hb⟩
    exact ⟨⟨none, 0, by rw [he]; rfl, by rw [he]; exact fun h => absurd h (Nat.lt_irrefl 0)⟩, hb⟩

end Go.Proofs.Ytahncanmfjmfnaa

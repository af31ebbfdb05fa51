/- The reference of chapter 5: what First finds in the bytes of a batch that may be. No function of the program is named. -/
import Derived.Test.YtahncanmfjmfnaaRrB
namespace Go.Proofs.Ytahncanmfjmfnaa
open Go.RowKit

/-- A number of s bytes at a. -/
def rr.fx (P : List Nat) (a s : Nat) : Int := wrap64 (wire.val ((P.drop a).take s) : Nat)
theorem rr.fx_put {P X Y : List Nat} {v : Int} {s a : Nat} (hP : P = X ++ (wire.be v.toNat s ++ Y)) (ha : X.length = a) (h0 : 0 ≤ v) (h1 : v.toNat < 256 ^ s) (h2 : v ≤ 9223372036854775807) : rr.fx P a s = v := by
  subst hP
  unfold rr.fx
  rw [List.drop_left' ha, List.take_left' (wire.be_len _ s), wire.val_be _ s h1, Int.toNat_of_nonneg h0]
  exact wrap_in (by unfold i64ok; omega)
theorem rr.fx_lt {P : List Nat} (hP : ∀ x ∈ P, x < 256) (a s : Nat) (hs : s ≤ 4) : 0 ≤ rr.fx P a s ∧ rr.fx P a s < 4294967296 := by
  have h1 := wire.val_lt ((P.drop a).take s) fun x hx => hP x (List.mem_of_mem_drop (List.mem_of_mem_take hx))
  have h2 : 256 ^ ((P.drop a).take s).length ≤ 256 ^ 4 := Nat.pow_le_pow_right (by decide) (by rw [List.length_take]; omega)
  rw [show (256 : Nat) ^ 4 = 4294967296 from rfl] at h2
  unfold rr.fx
  rw [wrap_in (by unfold i64ok; omega)]
  omega

theorem rr.next {P X F Y : List Nat} (h : P = X ++ (F ++ Y)) : P = (X ++ F) ++ Y := by rw [h, List.append_assoc]

/-- The records' bytes behind the first k. -/
def rr.flat (b : Bat) (k : Nat) : List Nat := ((b.recs.drop k).map (Rec.bytes (Bat.first b.recs) b.base)).flatten
/-- What stands in the bytes of a batch. -/
structure rr.Facts (P : List Nat) (b : Bat) : Prop where
  base : rr.fx P 0 8 = b.base
  last : rr.fx P 16 8 = b.last - b.base
  first : rr.fx P 24 8 = Bat.first b.recs
  prod : rr.fx P 32 8 = b.prod
  epoch : rr.fx P 40 2 = b.epoch
  seq : rr.fx P 42 4 = b.seq
  count : rr.fx P 46 4 = (b.recs.length : Int)
  rest : P.drop 50 = rr.flat b 0
  may : b.may
  first0 : 0 ≤ Bat.first b.recs ∧ Bat.first b.recs ≤ 1125899906842624
  most : b.recs.length ≤ 100

theorem rr.facts {b : Bat} (hc : b.check = 0) : rr.Facts b.bytes b := by
  obtain ⟨hm, h100, ho, -⟩ := Bat.check_ok hc
  obtain ⟨m0, m1, m2, m3, m4, m5, m6, m7, m8, m9, -⟩ := id hm
  obtain ⟨f0, f1⟩ := Bat.first_ok ho
  have p8 : (256 : Nat) ^ 8 = 18446744073709551616 := rfl
  have p4 : (256 : Nat) ^ 4 = 4294967296 := rfl
  have p2 : (256 : Nat) ^ 2 = 65536 := rfl
  have hflat : rr.flat b 0 = ((b.recs.take b.recs.length).map (Rec.bytes (Bat.first b.recs) b.base)).flatten := by rw [List.take_length]; rfl
  have hP : b.bytes = wire.be b.base.toNat 8 ++ (wire.be (4 + b.summed.length) 4 ++ (wire.be (crc.more 0 b.summed) 4 ++ (wire.be (b.last - b.base).toNat 8 ++ (wire.be (Bat.first b.recs).toNat 8 ++ (wire.be b.prod.toNat 8 ++ (wire.be b.epoch.toNat 2 ++ (wire.be b.seq.toNat 4 ++ (wire.be b.recs.length 4 ++ rr.flat b 0)))))))) := by
    rw [hflat]
    show b.front ++ b.summed = _
    rw [show b.summed = b.body b.recs.length from rfl]
    unfold Bat.front Bat.body Bat.head
    simp only [List.append_assoc]
    rfl
  have h0 : b.bytes = [] ++ (wire.be b.base.toNat 8 ++ _) := hP
  have h1 := rr.next h0
  have h2 := rr.next h1
  have h3 := rr.next h2
  have h4 := rr.next h3
  have h5 := rr.next h4
  have h6 := rr.next h5
  have h7 := rr.next h6
  have h8 := rr.next h7
  have h9 := rr.next h8
  refine ⟨?_, ?_, ?_, ?_, ?_, ?_, ?_, ?_, hm, ⟨f0, f1⟩, h100⟩
  · exact rr.fx_put h0 rfl m0 (by omega) (by omega)
  · exact rr.fx_put h3 (by simp only [List.length_append, wire.be_len, List.length_nil]) (by omega) (by omega) (by omega)
  · exact rr.fx_put h4 (by simp only [List.length_append, wire.be_len, List.length_nil]) f0 (by omega) (by omega)
  · exact rr.fx_put h5 (by simp only [List.length_append, wire.be_len, List.length_nil]) m4 (by omega) (by omega)
  · exact rr.fx_put h6 (by simp only [List.length_append, wire.be_len, List.length_nil]) m6 (by omega) (by omega)
  · exact rr.fx_put h7 (by simp only [List.length_append, wire.be_len, List.length_nil]) m8 (by omega) (by omega)
  · exact rr.fx_put (v := (b.recs.length : Int)) h8 (by simp only [List.length_append, wire.be_len, List.length_nil]) (by omega) (by omega) (by omega)
  · rw [h9]
    exact List.drop_left' (by simp only [List.length_append, wire.be_len, List.length_nil])

/-- What follows from what First decodes. -/
theorem rr.of_first {L : List Nat} (hL : ∀ x ∈ L, x < 256) {b : Bat} {u : Nat} (h : dec.first L = some (b, u)) :
    b.check = 0 ∧ u ≤ L.length ∧ 50 ≤ u ∧ u ≤ 65536 ∧ rr.fx L 8 4 = (u : Int) - 12 ∧ L.take u = b.bytes := by
  obtain ⟨hc, hu, hb⟩ := dec.first_back hL h
  obtain ⟨l1, l2, l3⟩ := Bat.summed_le hc
  have hl : u = b.bytes.length := by rw [← hb, List.length_take]; omega
  refine ⟨hc, hu, by omega, by omega, ?_, hb⟩
  have hLL : L = b.bytes ++ L.drop u := by rw [← hb, List.take_append_drop]
  have h0 : L = [] ++ (wire.be b.base.toNat 8 ++ (wire.be (((4 + b.summed.length : Nat) : Int)).toNat 4 ++ (wire.be (crc.more 0 b.summed) 4 ++ b.summed ++ L.drop u))) := by
    rw [Int.toNat_natCast]
    refine hLL.trans ?_
    unfold Bat.bytes Bat.front
    simp only [List.append_assoc, List.nil_append]
  have h1 := rr.next h0
  rw [rr.fx_put h1 (by simp only [List.length_append, wire.be_len, List.length_nil]) (by omega) (by rw [show (256 : Nat) ^ 4 = 4294967296 from rfl]; omega) (by omega)]
  omega
/-- Bytes that are a batch's are decoded so. -/
theorem rr.first_of {L : List Nat} {b : Bat} {u : Nat} (hc : b.check = 0) (hu : u ≤ L.length) (h : L.take u = b.bytes) : dec.first L = some (b, u) := by
  have hLL : L = b.bytes ++ L.drop u := by rw [← h, List.take_append_drop]
  have hl : b.bytes.length = u := by rw [← h, List.length_take]; omega
  have hp := dec.first_put hc (L.drop u)
  rw [← hLL, hl] at hp
  exact hp

theorem bat.chks_low {last : Int} : ∀ (rs : List Rec) (ahead : Int), bat.chks last ahead rs = 0 → ∀ r ∈ rs, ahead < r.off := by
  intro rs
  induction rs with
  | nil => intro _ _ r hr; cases hr
  | cons x xs ih =>
    intro ahead h r hr
    unfold bat.chks at h
    split at h
    · cases h
    · rename_i h1
      split at h
      · rename_i h2; exact absurd h h2
      · rename_i h2
        rcases List.mem_cons.1 hr with rfl | hr
        · omega
        · have := ih x.off h r hr
          omega
theorem Bat.low {b : Bat} (h : b.check = 0) : ∀ r ∈ b.recs, b.base ≤ r.off := by
  unfold Bat.check at h
  by_cases hm : b.may
  · rw [if_neg (fun h => h hm)] at h
    split at h
    · cases h
    · split at h
      · rename_i h2; exact absurd h h2
      · rename_i h2
        intro r hr
        have := bat.chks_low (last := b.last) b.recs (b.base - 1) (by omega) r hr
        omega
  · rw [if_pos hm] at h
    cases h
theorem rr.rec_put {r : Rec} (ho : r.ok) (hk : r.hasKey = false → r.key = []) (hv : r.hasVal = false → r.val = []) {first base : Int} (h1 : 0 ≤ first) (h2 : first ≤ 1125899906842624) (h3 : 0 ≤ base) (h4 : base ≤ 4611686018427387904) (h5 : base ≤ r.off) :
    rr.rec first base (r.rest first base) = some r := by
  obtain ⟨t0, t1, o0, o1, k1, v1⟩ := id ho
  have e1 : r.rest first base = num.put (r.time - first) ++ (num.put (r.off - base) ++ (bat.field r.hasKey r.key ++ bat.field r.hasVal r.val)) := by
    unfold Rec.rest
    simp only [List.append_assoc]
  have d2 := dec.num_put (r.time - first) (num.put (r.off - base) ++ (bat.field r.hasKey r.key ++ bat.field r.hasVal r.val)) (by unfold i64ok; omega)
  rw [← e1] at d2
  have d3 := dec.num_put (r.off - base) (bat.field r.hasKey r.key ++ bat.field r.hasVal r.val) (by unfold i64ok; omega)
  have f1 := dec.field_put r.hasKey r.key (bat.field r.hasVal r.val) hk (by omega)
  have f2 := dec.field_put r.hasVal r.val [] hv (by omega)
  rw [List.append_nil] at f2
  rw [rr.rec6 d2 d3 (by omega) f1 f2, if_neg (by simp), wrap_in (by unfold i64ok; omega), wrap_in (by unfold i64ok; omega)]
  rw [show base + (r.off - base) = r.off by omega, show first + (r.time - first) = r.time by omega]
/-- One record more of the bytes of a batch. -/
theorem rr.flat_step {b : Bat} (hc : b.check = 0) {k : Nat} (hk : k < b.recs.length) :
    ∃ r, b.recs[k]? = some r ∧ rd.piece (rr.flat b k) 0 ((rr.flat b k).length : Int) = (r.rest (Bat.first b.recs) b.base, rr.flat b (k + 1), 0) ∧ rr.rec (Bat.first b.recs) b.base (r.rest (Bat.first b.recs) b.base) = some r := by
  obtain ⟨hm, h100, ho, -⟩ := Bat.check_ok hc
  have hfl := Bat.flags_of hc
  obtain ⟨m0, m1, -⟩ := id hm
  obtain ⟨f0, f1⟩ := Bat.first_ok ho
  have hmem : b.recs[k] ∈ b.recs := List.getElem_mem hk
  obtain ⟨g1, g2⟩ := hfl _ hmem
  have hro := ho _ hmem
  have hbd := Rec.body_le hro (Bat.first b.recs) b.base
  have hlen := Rec.rest_len b.recs[k] (Bat.first b.recs) b.base g1 g2
  refine ⟨b.recs[k], List.getElem?_eq_getElem hk, ?_, rr.rec_put hro g1 g2 f0 f1 m0 m1 (Bat.low hc _ hmem)⟩
  have hstep : rr.flat b k = num.put (((b.recs[k]).rest (Bat.first b.recs) b.base).length : Int) ++ ((b.recs[k]).rest (Bat.first b.recs) b.base ++ rr.flat b (k + 1)) := by
    unfold rr.flat
    rw [List.drop_eq_getElem_cons hk, List.map_cons, List.flatten_cons, ← Rec.rest_bytes _ _ _ g1 g2, List.append_assoc]
  obtain ⟨S, hS⟩ : ∃ S, S = (b.recs[k]).rest (Bat.first b.recs) b.base := ⟨_, rfl⟩
  rw [← hS] at hstep hlen ⊢
  obtain ⟨u, hg, hz⟩ := num.getL_some (S.length : Int) (S ++ rr.flat b (k + 1)) (by omega) (by omega)
  rw [← hstep] at hg
  have hdrop : (rr.flat b k).drop (num.put (S.length : Int)).length = S ++ rr.flat b (k + 1) := by rw [hstep, List.drop_left]
  have hn : rd.num (rr.flat b k) 0 = ((S.length : Int), S ++ rr.flat b (k + 1), 0) := by
    unfold rd.num
    rw [if_neg (by decide), hg]
    show (num.zag u, _, (0 : Int)) = _
    rw [hz, hdrop]
  have hlen2 : (rr.flat b k).length = (num.put (S.length : Int)).length + (S.length + (rr.flat b (k + 1)).length) := by rw [hstep]; simp only [List.length_append]
  unfold rd.piece
  rw [hn]
  unfold rd.cut
  dsimp only
  rw [if_neg (by decide), if_neg (by rw [List.length_append]; omega), if_neg (by omega), Int.toNat_natCast, List.take_left, List.drop_left]
end Go.Proofs.Ytahncanmfjmfnaa

/- proto: what was written is read as it was; cut short or longer it is none (chapter 20; pure). -/
import Derived.Test.YtimcpbbcealkiaaPqF
import Derived.Test.YtimcpbbcealkiaaPqI
import Derived.Test.YtimcpbbcealkiaaRdL
import Derived.Test.YtimcpbbcealkiaaRdZ
namespace Go.Proofs.Ytimcpbbcealkiaa
open Go.RowKit

theorem rd.piece_text (s : ByteArray) (Z : List Nat) (most : Int) (hs : (s.size : Int) ≤ most) (hs2 : s.size ≤ 1000000) : rd.piece (pq.text s ++ Z) 0 most = (strNats s, Z, 0) := by
  have h := rd.piece_put (strNats s) Z most (by rw [strNats_len]; omega) (by rw [strNats_len]; exact hs)
  rw [strNats_len] at h
  unfold pq.text
  rw [List.append_assoc]
  exact h
theorem rd.texts_put : ∀ (l : List ByteArray) (Z : List Nat), (∀ s ∈ l, s.size ≤ 100) → rd.texts l.length (pq.texts l ++ Z) 0 = (l, Z, 0)
  | [], Z, _ => rfl
  | s :: l, Z, h => by
    have h1 := h s (by simp)
    have h2 := rd.texts_put l Z fun x hx => h x (by simp [hx])
    have e : pq.texts (s :: l) ++ Z = pq.text s ++ (pq.texts l ++ Z) := by
      show (pq.text s ++ pq.texts l) ++ Z = _
      rw [List.append_assoc]
    rw [List.length_cons, rd.texts, e, rd.piece_text s _ 100 (by omega) (by omega)]
    dsimp only
    rw [h2, strOf_strNats]
theorem pq.list_put (l : List ByteArray) (Z : List Nat) (most : Int) (hl : (l.length : Int) ≤ most) (hl2 : l.length ≤ 1000000) (hs : ∀ s ∈ l, s.size ≤ 100) : pq.list most (num.put l.length ++ (pq.texts l ++ Z)) 0 = (l, Z, 0) := by
  unfold pq.list
  rw [rd.num_put (l.length : Int) (pq.texts l ++ Z) (by omega) (by omega)]
  dsimp only
  rw [if_neg (by omega), Int.toNat_natCast]
  exact rd.texts_put l Z hs
/-- A request behind its kind and its number. -/
def pq.tail (r : PReq) : List Nat := pq.text r.client ++ (pq.text r.topic ++ (num.put r.part ++ (num.put r.off ++ (num.put r.time ++ (num.put r.most ++ (pq.text r.group ++ (pq.text r.member ++ (num.put r.gen ++ (num.put r.names.length ++ (pq.texts r.names ++ (num.put r.data.length ++ r.data)))))))))))
theorem pq.bytes_eq (r : PReq) : pq.bytes r = wire.be r.kind.toNat 2 ++ (wire.be r.corr.toNat 4 ++ pq.tail r) := by
  unfold pq.bytes pq.tail
  simp only [List.nil_append, List.append_assoc]
theorem pq.rest_put (r : PReq) (Z : List Nat) (hf : r.fit) (hc : pq.check r = 0) : pq.rest r.kind r.corr (pq.tail r ++ Z) 0 = (r, if 0 < Z.length then 2 else 0) := by
  obtain ⟨-, -, hl4, hn30, hln, hd6⟩ := pq.check_ok hc
  obtain ⟨⟨-, -, ip, io, it, im, ig⟩, -⟩ := hf
  unfold pq.int at ip io it im ig
  have hs4 := pq.long_no hl4
  have hsn := pq.long_no hln
  have s2 := hs4 r.client (by simp)
  have s3 := hs4 r.topic (by simp)
  have s8 := hs4 r.group (by simp)
  have s9 := hs4 r.member (by simp)
  unfold pq.rest pq.tail
  simp only [List.append_assoc]
  rw [rd.piece_text r.client _ 100 (by omega) (by omega)]
  dsimp only
  rw [rd.piece_text r.topic _ 100 (by omega) (by omega)]
  dsimp only
  rw [rd.num_put r.part _ ip.1 ip.2]
  dsimp only
  rw [rd.num_put r.off _ io.1 io.2]
  dsimp only
  rw [rd.num_put r.time _ it.1 it.2]
  dsimp only
  rw [rd.num_put r.most _ im.1 im.2]
  dsimp only
  rw [rd.piece_text r.group _ 100 (by omega) (by omega)]
  dsimp only
  rw [rd.piece_text r.member _ 100 (by omega) (by omega)]
  dsimp only
  rw [rd.num_put r.gen _ ig.1 ig.2]
  dsimp only
  rw [pq.list_put r.names _ 30 (by omega) (by omega) hsn]
  dsimp only
  rw [if_neg (by simp), rd.piece_put r.data Z 65536 (by omega) (by omega)]
  dsimp only
  rw [strOf_strNats, strOf_strNats, strOf_strNats, strOf_strNats]
theorem pq.bytes_len {r : PReq} (hc : pq.check r = 0) : 6 ≤ (pq.bytes r).length ∧ (pq.bytes r).length ≤ 131072 := by
  obtain ⟨-, -, hl4, hn30, hln, hd6⟩ := pq.check_ok hc
  have hs4 := pq.long_no hl4
  have hsn := pq.long_no hln
  have s2 := hs4 r.client (by simp)
  have s3 := hs4 r.topic (by simp)
  have s8 := hs4 r.group (by simp)
  have s9 := hs4 r.member (by simp)
  have t2 := pq.text_len r.client
  have t3 := pq.text_len r.topic
  have t8 := pq.text_len r.group
  have t9 := pq.text_len r.member
  have n4 := num.put_bd r.part
  have n5 := num.put_bd r.off
  have n6 := num.put_bd r.time
  have n7 := num.put_bd r.most
  have n10 := num.put_bd r.gen
  have n11 := num.put_bd (r.names.length : Int)
  have n12 := num.put_bd (r.data.length : Int)
  have ht : ∀ l : List ByteArray, (∀ s ∈ l, s.size ≤ 100) → (pq.texts l).length ≤ l.length * 110 := fun l => by
    induction l with
    | nil => intro _; simp [pq.texts]
    | cons s l ih =>
      intro h
      have h1 := ih fun x hx => h x (by simp [hx])
      have h2 := (pq.text_len s).2
      have h3 := h s (by simp)
      show (pq.text s ++ pq.texts l).length ≤ _
      rw [List.length_append, List.length_cons]
      omega
  have h11 := ht r.names hsn
  rw [pq.bytes_eq]
  unfold pq.tail
  simp only [List.length_append, wire.be_len]
  omega
/-- What was written, whatever stands behind it. -/
theorem pq.dec_put (r : PReq) (Z : List Nat) (hf : r.fit) (hc : pq.check r = 0) (hz : (pq.bytes r ++ Z).length ≤ 131072) : pq.dec (pq.bytes r ++ Z) = if 0 < Z.length then (pq.noReq, r.corr, 2) else (r, r.corr, 0) := by
  obtain ⟨⟨hk1, hk2⟩, ⟨hr1, hr2⟩, -⟩ := pq.check_ok hc
  have hlen := pq.bytes_len hc
  have f1 := rd.fixed_be r.kind.toNat 2 (wire.be r.corr.toNat 4 ++ (pq.tail r ++ Z)) (by unfold wire.fit; simp; omega) (by omega)
  have f2 := rd.fixed_be r.corr.toNat 4 (pq.tail r ++ Z) (by unfold wire.fit; simp; omega) (by omega)
  rw [Int.toNat_of_nonneg (by omega)] at f1
  rw [Int.toNat_of_nonneg (by omega)] at f2
  have hl : (pq.bytes r ++ Z).length = (pq.bytes r).length + Z.length := List.length_append
  have e : pq.bytes r ++ Z = wire.be r.kind.toNat 2 ++ (wire.be r.corr.toNat 4 ++ (pq.tail r ++ Z)) := by
    rw [pq.bytes_eq]
    simp only [List.append_assoc]
  unfold pq.dec
  rw [if_neg (by omega), if_neg (by omega), e]
  rw [show ((2 : Nat) : Int) = 2 from rfl] at f1
  rw [show ((4 : Nat) : Int) = 4 from rfl] at f2
  rw [f1]
  dsimp only
  rw [f2]
  dsimp only
  have hC : (if 2147483647 < r.corr then (0:Int) else r.corr) = r.corr := if_neg (by omega)
  simp only [hC]
  rw [if_neg (by omega), if_neg (by omega), pq.rest_put r Z hf hc]
  dsimp only
  by_cases h0 : 0 < Z.length
  · rw [if_pos h0, if_pos h0, if_pos (by decide)]
  · rw [if_neg h0, if_neg h0, if_neg (by simp)]
end Go.Proofs.Ytimcpbbcealkiaa

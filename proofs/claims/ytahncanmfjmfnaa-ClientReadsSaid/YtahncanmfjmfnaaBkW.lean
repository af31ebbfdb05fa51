/- The walk of the law BatchBack. -/
import Derived.Test.YtahncanmfjmfnaaBdG
import Derived.Test.YtahncanmfjmfnaaBsC
import Derived.Test.YtahncanmfjmfnaaBwD
import Derived.Test.YtahncanmfjmfnaaBatW
namespace Go.Proofs.Ytahncanmfjmfnaa
open Go.RowKit

theorem wire.valF_inj : ∀ (L M : List Nat) (n m : Nat), L.length = M.length → (∀ x ∈ L, x < 256) → (∀ x ∈ M, x < 256) → wire.valF n L = wire.valF m M → n = m ∧ L = M
  | [], [], _, _, _, _, _, h => ⟨h, rfl⟩
  | [], _ :: _, _, _, hl, _, _, _ => by simp at hl
  | _ :: _, [], _, _, hl, _, _, _ => by simp at hl
  | x :: L, y :: M, n, m, hl, hL, hM, h => by
    have h1 : wire.valF (n * 256 + x) L = wire.valF (m * 256 + y) M := h
    obtain ⟨h2, h3⟩ := wire.valF_inj L M _ _ (by simpa using hl) (fun z hz => hL z (List.mem_cons_of_mem _ hz)) (fun z hz => hM z (List.mem_cons_of_mem _ hz)) h1
    have hx := hL x (List.mem_cons_self ..)
    have hy := hM y (List.mem_cons_self ..)
    have : x = y := by omega
    exact ⟨by omega, by rw [this, h3]⟩
theorem wire.val_inj {L M : List Nat} (hl : L.length = M.length) (hL : ∀ x ∈ L, x < 256) (hM : ∀ x ∈ M, x < 256) (h : wire.val L = wire.val M) : L = M := (wire.valF_inj L M 0 0 hl hL hM h).2

theorem dec.g_ok {L : List Nat} (h : (dec.g2 L).2.2 = 0) : 12 ≤ L.length ∧ (dec.g1 L).1 = ((wire.val (L.take 8) : Nat) : Int) ∧ (dec.g2 L).1 = ((wire.val ((L.drop 8).take 4) : Nat) : Int) ∧ (dec.g2 L).2.1 = L.drop 12 ∧
    (16 ≤ L.length → (dec.g3 L).1 = ((wire.val ((L.drop 12).take 4) : Nat) : Int)) := by
  obtain ⟨g1, g2, g3, g4⟩ := rd.fixed_ok (s := 4) (show (rd.fixed (dec.g1 L).2.1 (dec.g1 L).2.2 (4 : Nat)).2.2 = 0 from h)
  obtain ⟨-, k2, k3, k4⟩ := rd.fixed_ok (s := 8) (show (rd.fixed L 0 (8 : Nat)).2.2 = 0 from g1)
  have e1 : (dec.g1 L).2.1 = L.drop 8 := k2
  rw [e1] at g2 g3 g4
  rw [List.length_drop] at g3
  have e2 : (dec.g2 L).2.1 = L.drop 12 := by
    have : (dec.g2 L).2.1 = (rd.fixed (dec.g1 L).2.1 (dec.g1 L).2.2 (4 : Nat)).2.1 := rfl
    rw [this, e1, g2, List.drop_drop]
  refine ⟨by omega, k4, ?_, e2, fun h16 => ?_⟩
  · have : (dec.g2 L).1 = (rd.fixed (dec.g1 L).2.1 (dec.g1 L).2.2 (4 : Nat)).1 := rfl
    rw [this, e1, g4]
  · have : (dec.g3 L).1 = (rd.fixed (dec.g2 L).2.1 (dec.g2 L).2.2 4).1 := rfl
    rw [this, e2, h]
    unfold rd.fixed
    rw [if_neg (by simp), if_neg (by unfold rd.fbad; rw [List.length_drop]; omega)]
    rfl
/-- What stands ahead in a batch's bytes. -/
theorem dec.g_put {b : Bat} (hc : b.check = 0) : wire.val (b.bytes.take 8) = b.base.toNat ∧ wire.val ((b.bytes.drop 8).take 4) = 4 + b.summed.length ∧ wire.val ((b.bytes.drop 12).take 4) = crc.more 0 b.summed ∧ b.bytes.drop 16 = b.summed := by
  obtain ⟨hm, -⟩ := Bat.check_ok hc
  obtain ⟨l1, l2, -⟩ := Bat.summed_le hc
  obtain ⟨m0, m1, -⟩ := id hm
  have hclt := crc.more_lt 0 b.summed
  have hB : b.bytes = wire.be b.base.toNat 8 ++ (wire.be (4 + b.summed.length) 4 ++ (wire.be (crc.more 0 b.summed) 4 ++ b.summed)) := by
    unfold Bat.bytes Bat.front
    simp only [List.append_assoc]
  have d8 : b.bytes.drop 8 = wire.be (4 + b.summed.length) 4 ++ (wire.be (crc.more 0 b.summed) 4 ++ b.summed) := by
    rw [hB]
    exact List.drop_left' (wire.be_len _ _)
  have d12 : b.bytes.drop 12 = wire.be (crc.more 0 b.summed) 4 ++ b.summed := by
    rw [show 12 = 8 + 4 from rfl, ← List.drop_drop, d8]
    exact List.drop_left' (wire.be_len _ _)
  have d16 : b.bytes.drop 16 = b.summed := by
    rw [show 16 = 12 + 4 from rfl, ← List.drop_drop, d12]
    exact List.drop_left' (wire.be_len _ _)
  refine ⟨?_, ?_, ?_, d16⟩
  · rw [hB, List.take_left' (wire.be_len _ _)]
    refine wire.val_be _ 8 ?_
    have : (256 : Nat) ^ 8 = 18446744073709551616 := by decide
    omega
  · rw [d8, List.take_left' (wire.be_len _ _)]
    refine wire.val_be _ 4 ?_
    have : (256 : Nat) ^ 4 = 4294967296 := by decide
    omega
  · rw [d12, List.take_left' (wire.be_len _ _)]
    refine wire.val_be _ 4 ?_
    have : (256 : Nat) ^ 4 = 4294967296 := by decide
    omega
theorem dec.decode_none {L : List Nat} (h : dec.first L = none) : dec.decode L = none := by unfold dec.decode; rw [h]
/-- Cut short, the bytes are none's. -/
theorem dec.decode_cut {b : Bat} (hc : b.check = 0) (k : Nat) (hk : k < b.bytes.length) : dec.decode (b.bytes.take k) = none := by
  obtain ⟨-, p2, -, -⟩ := dec.g_put hc
  obtain ⟨l1, -, -⟩ := Bat.summed_le hc
  refine dec.decode_none ?_
  unfold dec.first
  by_cases h : (dec.g2 (b.bytes.take k)).2.2 = 0
  · obtain ⟨h12, -, g2, r2, -⟩ := dec.g_ok h
    rw [List.length_take] at h12
    refine if_pos (.inr (.inl ?_))
    rw [g2, r2, List.length_drop, List.length_take]
    have e : ((b.bytes.take k).drop 8).take 4 = (b.bytes.drop 8).take 4 := by
      rw [List.drop_take, List.take_take, Nat.min_eq_left (by omega)]
    rw [e, p2]
    omega
  · rw [if_pos (.inl h)]
/-- Longer, they are none's. -/
theorem dec.decode_long {b : Bat} (hc : b.check = 0) (x : Nat) : dec.decode (b.bytes ++ [x]) = none := by
  have h := dec.first_put hc [x]
  unfold dec.decode
  rw [h]
  dsimp only
  rw [if_neg (by simp)]
theorem dec.summed_base {base : Int} {L : List Nat} {b : Bat} (h : dec.summed base L = some b) : b.base = base := by
  unfold dec.summed at h
  split at h
  · cases h
  · split at h
    · cases h
    · split at h
      · obtain rfl := Option.some.inj h
        rfl
      · cases h
/-- With one changed byte they are no batch of this Base. -/
theorem dec.decode_set {b d : Bat} (hc : b.check = 0) (hb : ∀ x ∈ b.bytes, x < 256) (i y : Nat) (hi : i < b.bytes.length) (hy : y < 256) (hne : y ≠ b.bytes.getD i 0) (h : dec.decode (b.bytes.set i y) = some d) : d.base ≠ b.base := by
  obtain ⟨p1, p2, p3, p4⟩ := dec.g_put hc
  obtain ⟨l1, l2, l3⟩ := Bat.summed_le hc
  obtain ⟨m0, -⟩ := (Bat.check_ok hc).1
  obtain ⟨L, hL⟩ : ∃ L, L = b.bytes.set i y := ⟨_, rfl⟩
  have hLl : L.length = b.bytes.length := by rw [hL, List.length_set]
  have hLb : ∀ x ∈ L, x < 256 := fun x hx => by
    rw [hL] at hx
    rcases List.mem_or_eq_of_mem_set hx with h | h
    · exact hb x h
    · rw [h]; exact hy
  have hget : L.getD i 0 = y := by rw [hL]; simp [List.getD, hi]
  -- wherever a piece of both is one and the same, the changed place is not in it
  have hpiece : ∀ a n : Nat, a ≤ i → i < a + n → (L.drop a).take n = (b.bytes.drop a).take n → False := fun a n h1 h2 he => by
    have e := congrArg (fun l => l.getD (i - a) 0) he
    simp only [List.getD, List.getElem?_take, List.getElem?_drop] at e
    rw [if_pos (by omega), if_pos (by omega), show a + (i - a) = i by omega] at e
    have h3 : L.getD i 0 = b.bytes.getD i 0 := by simpa [List.getD] using e
    exact hne (by rw [← hget]; exact h3)
  have hsame : ∀ a n : Nat, (i < a ∨ a + n ≤ i) → (L.drop a).take n = (b.bytes.drop a).take n := fun a n hh => by
    refine List.ext_getElem? fun j => ?_
    simp only [List.getElem?_take, List.getElem?_drop]
    split
    · rw [hL, List.getElem?_set_ne (by omega)]
    · rfl
  have hpl : ∀ a n : Nat, ((L.drop a).take n).length = ((b.bytes.drop a).take n).length := fun a n => by simp only [List.length_take, List.length_drop, hLl]
  have hbyt : ∀ (M : List Nat) (a n : Nat), (∀ x ∈ M, x < 256) → ∀ x ∈ (M.drop a).take n, x < 256 := fun M a n hM x hx => hM x (List.mem_of_mem_drop (List.mem_of_mem_take hx))
  rw [← hL] at h
  unfold dec.decode at h
  split at h
  · cases h
  · rename_i d' u hf
    split at h
    · rename_i hu
      obtain rfl := Option.some.inj h
      unfold dec.first at hf
      split at hf
      · cases hf
      · rename_i hn1
        have herr : (dec.g2 L).2.2 = 0 := by
          by_cases h0 : (dec.g2 L).2.2 = 0
          · exact h0
          · exact absurd (Or.inl h0) hn1
        obtain ⟨h12, g1, g2, r2, g3⟩ := dec.g_ok herr
        have g3 := g3 (by omega)
        split at hf
        · cases hf
        · rename_i hn2
          split at hf
          · cases hf
          · rename_i b' hs
            split at hf
            · cases hf
            · have hf2 := Option.some.inj hf
              obtain ⟨rfl, hu2⟩ : b' = d' ∧ 12 + (dec.g2 L).1.toNat = u := by simpa using hf2
              have hbase := dec.summed_base hs
              rw [g2, Int.toNat_natCast] at hu2
              have hv2 : wire.val ((L.drop 8).take 4) = wire.val ((b.bytes.drop 8).take 4) := by rw [p2]; omega
              have e8 := wire.val_inj (hpl 8 4) (hbyt L 8 4 hLb) (hbyt b.bytes 8 4 hb) hv2
              have hcrc : wire.val ((L.drop 12).take 4) = crc.more 0 (L.drop 16) := by
                have hx : (dec.g3 L).1 = ((crc.more 0 (dec.sum L (dec.g2 L).1.toNat) : Nat) : Int) := by
                  by_cases hx : (dec.g3 L).1 = ((crc.more 0 (dec.sum L (dec.g2 L).1.toNat) : Nat) : Int)
                  · exact hx
                  · exact absurd (Or.inr hx) hn2
                rw [g3, g2, Int.toNat_natCast] at hx
                unfold dec.sum at hx
                rw [hu2, hu, List.take_length] at hx
                omega
              by_cases i16 : 16 ≤ i
              · exfalso
                have e12 := hsame 12 4 (.inr (by omega))
                rw [e12, p3] at hcrc
                have hds : L.drop 16 = b.summed.set (i - 16) y := by
                  rw [← p4, hL, List.drop_set, if_neg (by omega)]
                rw [hds] at hcrc
                refine crc.set_ne b.summed (i - 16) y (by omega) (fun x hx => ?_) hy ?_ hcrc.symm
                · rw [← p4] at hx
                  exact hb x (List.mem_of_mem_drop hx)
                · rw [← p4]
                  simp only [List.getD, List.getElem?_drop]
                  rw [show 16 + (i - 16) = i by omega]
                  exact hne
              · by_cases i12 : 12 ≤ i
                · exfalso
                  have hds : L.drop 16 = b.summed := by
                    rw [← p4, hL, List.drop_set, if_pos (by omega)]
                  rw [hds, ← p3] at hcrc
                  exact hpiece 12 4 i12 (by omega) (wire.val_inj (hpl 12 4) (hbyt L 12 4 hLb) (hbyt b.bytes 12 4 hb) hcrc)
                · by_cases i8 : 8 ≤ i
                  · exact (hpiece 8 4 i8 (by omega) e8).elim
                  · intro hbb
                    rw [hbase, g1] at hbb
                    have hv : wire.val ((L.drop 0).take 8) = wire.val ((b.bytes.drop 0).take 8) := by
                      rw [List.drop_zero, List.drop_zero, p1]
                      omega
                    exact hpiece 0 8 (Nat.zero_le _) (by omega) (wire.val_inj (hpl 0 8) (hbyt L 0 8 hLb) (hbyt b.bytes 0 8 hb) hv)
    · cases h

theorem recsSame_self' : ∀ rs : List Rec, recsSame rs rs = true
  | [] => rfl
  | r :: rs => by
    show (decide (r.Same r) && recsSame rs rs) = true
    rw [recsSame_self' rs, decide_eq_true (show r.Same r from ⟨rfl, rfl, rfl, rfl, rfl, rfl⟩)]
    rfl
theorem Bat.same_self' (b : Bat) : b.same b = true := by
  unfold Bat.same
  rw [recsSame_self', decide_eq_true (show b.heads b from ⟨rfl, rfl, rfl, rfl, rfl⟩)]
  rfl
theorem Bat.bytes_byte' {b : Bat} (hc : b.check = 0) (hb : ∀ r ∈ b.recs, (∀ x ∈ r.key, x < 256) ∧ (∀ x ∈ r.val, x < 256)) : ∀ x ∈ b.bytes, x < 256 := by
  obtain ⟨hm, -, ho, -⟩ := Bat.check_ok hc
  have hs := Bat.summed_byte hm ho hb
  unfold Bat.bytes Bat.front
  intro x hx
  simp only [List.mem_append] at hx
  rcases hx with ((h | h) | h) | h
  · exact wire.be_byte _ _ x h
  · exact wire.be_byte _ _ x h
  · exact wire.be_byte _ _ x h
  · exact hs x h
theorem round_fix (k n : Int) (hk : -9223372036854775808 ≤ k ∧ k ≤ 9223372036854775807) (hn : 0 < n) (hn2 : n ≤ 1099511627776) :
    ∃ r : Nat, (r : Int) < n ∧ ∀ w, Calls Try.prog 11 #[.int .i64 k, .int .i64 n] w fun e w' => e = .returned (.int .i64 (r : Int)) ∧ w = w' := by
  obtain ⟨k1, k2⟩ := hk
  have h1 := Int.tmod_lt_of_pos k hn
  have h2 : -n < k.tmod n := by
    have := Int.tmod_lt_of_pos (-k) hn
    rw [Int.neg_tmod] at this; omega
  have hne : n ≠ 0 := by omega
  by_cases hneg : k.tmod n < 0
  · refine ⟨(k.tmod n + n).toNat, by omega, fun w => ?_⟩
    go_enter Try.func11, Try.ntmps11
    go_wp2
    go_ret
    exact ⟨ret_num (by omega), rfl⟩
  · refine ⟨(k.tmod n).toNat, by omega, fun w => ?_⟩
    go_enter Try.func11, Try.ntmps11
    go_wp2
    go_ret
    exact ⟨ret_num (by omega), rfl⟩
theorem Bat.same_base {b d : Bat} (h : d.base ≠ b.base) : b.same d = false := by
  unfold Bat.same
  rw [decide_eq_false (fun hh : b.heads d => h hh.1.symm)]
  rfl
theorem xor_ne (y x : Nat) (h : x ≠ 0) : y ^^^ x ≠ y := fun e => h (by
  have h2 := congrArg (fun z => y ^^^ z) e
  simpa [← Nat.xor_assoc] using h2)
/-- A row of bytes laid empty. -/
theorem Acc.empty (w3 w : World) (hb : Below w3.heap.size w3 w) : Acc w3 (.slice (some ⟨w.heap.size, 0, none⟩) 0 0) [] (w.alloc (.cells #[] 5)) :=
  ⟨World.ownsRow_made w #[] 0 hb.size (by unfold maxLen; omega) (by simp), hb.alloc hb.size _⟩
/-- A byte of it is written over. -/
theorem Acc.set {w3 w : World} {g n cap : Nat} {L : List Nat} (h : Acc w3 (.slice (some ⟨g, 0, none⟩) n cap) L w) (hn : L.length = n) (i y : Nat) : Acc w3 (.slice (some ⟨g, 0, none⟩) n cap) (L.set i y) (w.setCell ⟨g, i, none⟩ (.int .u8 (y : Int))) := by
  obtain ⟨h1, h2⟩ := h
  rw [hn] at h1
  obtain ⟨k1, k2⟩ := h1.stored i (.int .u8 (y : Int))
  refine ⟨?_, h2.grown k2 h2.size (fun k hk => by obtain rfl : g = k := by simpa using hk
                                                  exact (h1.lt g rfl).1)⟩
  rw [List.length_set, hn]
  have e : u8s (L.set i y) = (u8s L).set i (.int .u8 (y : Int)) := by unfold u8s; rw [List.map_set]
  rw [e]
  exact k1

end Go.Proofs.Ytahncanmfjmfnaa

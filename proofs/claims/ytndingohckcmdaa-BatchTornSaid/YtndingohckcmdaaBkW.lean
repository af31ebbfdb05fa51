/- The walk of the law BatchBack. -/
import Derived.Test.YtndingohckcmdaaBdG
import Derived.Test.YtndingohckcmdaaBsC
import Derived.Test.YtndingohckcmdaaBwD
import Derived.Test.YtndingohckcmdaaBatW
namespace Go.Proofs.Ytndingohckcmdaa
open Go.RowKit

theorem wire.valF_inj : ∀ (L M : List Nat) (n m : Nat), L.length = M.length → (∀ x ∈ L, x < 256) → (∀ x ∈ M, x < 256) → wire.valF n L = wire.valF m M → n = m ∧ L = M
  | [], [], _, _, _, _, _, h => ⟨h, rfl⟩
  | [], _ :: _, _, _, hl, _, _, _ => by simp at hl
  | _ :: _, [], _, _, hl, _, _, _ => by simp at hl
  | x :: L, y :: M, n, m, hl, hL, hM, h => by
    have h1 : wire.valF (n * 256 + x) L = wire.valF (m * 256 + y) M := h
    obtain ⟨h2, h3⟩ := wire.valF_inj L M _ _ (by simpa using hl) (fun z hz => hL z (List.mem_cons_of_mem _ hz)) (fun z hz => hM z (List.mem_cons_of_mem _ hz)) h1
    have hx := hL x (List.mem_cons_self ..)
    have hy := hM y (List.mem_cons_self ..)
    have : x = y := by omega
    exact ⟨by omega, by rw [this, h3]⟩
theorem wire.val_inj {L M : List Nat} (hl : L.length = M.length) (hL : ∀ x ∈ L, x < 256) (hM : ∀ x ∈ M, x < 256) (h : wire.val L = wire.val M) : L = M := (wire.valF_inj L M 0 0 hl hL hM h).2

theorem dec.g_ok {L : List Nat} (h : (dec.g2 L).2.2 = 0) : 12 ≤ L.length ∧ (dec.g1 L).1 = ((wire.val (L.take 8) : Nat) : Int) ∧ (dec.g2 L).1 = ((wire.val ((L.drop 8).take 4) : Nat) : Int) ∧ (dec.g2 L).2.1 = L.drop 12 ∧
    (16 ≤ L.length → (dec.g3 L).1 = ((wire.val ((L.drop 12).take 4) : Nat) : Int)) := by
  obtain ⟨g1, g2, g3, g4⟩ := rd.fixed_ok (s := 4) (show (rd.fixed (dec.g1 L).2.1 (dec.g1 L).2.2 (4 : Nat)).2.2 = 0 from h)
  obtain ⟨-, k2, k3, k4⟩ := rd.fixed_ok (s := 8) (show (rd.fixed L 0 (8 : Nat)).2.2 = 0 from g1)
  have e1 : (dec.g1 L).2.1 = L.drop 8 := k2
  rw [e1] at g2 g3 g4
  rw [List.length_drop] at g3
  have e2 : (dec.g2 L).2.1 = L.drop 12 := by
    have : (dec.g2 L).2.1 = (rd.fixed (dec.g1 L).2.1 (dec.g1 L).2.2 (4 : Nat)).2.1 := rfl
    rw [this, e1, g2, List.drop_drop]
  refine ⟨by omega, k4, ?_, e2, fun h16 => ?_⟩
  · have : (dec.g2 L).1 = (rd.fixed (dec.g1 L).2.1 (dec.g1 L).2.2 (4 : Nat)).1 := rfl
    rw [this, e1, g4]
  · have : (dec.g3 L).1 = (rd.fixed (dec.g2 L).2.1 (dec.g2 L).2.2 4).1 := rfl
    rw [this, e2, h]
    unfold rd.fixed
    rw [if_neg (by simp), if_neg (by unfold rd.fbad; rw [List.length_drop]; omega)]
    rfl
/-- What stands ahead in a batch's bytes. -/
theorem dec.g_put {b : Bat} (hc : b.check = 0) : wire.val (b.bytes.take 8) = b.base.toNat ∧ wire.val ((b.bytes.drop 8).take 4) = 4 + b.summed.length ∧ wire.val ((b.bytes.drop 12).take 4) = crc.more 0 b.summed ∧ b.bytes.drop 16 = b.summed := by
  obtain ⟨hm, -⟩ := Bat.check_ok hc
  obtain ⟨l1, l2, -⟩ := Bat.summed_le hc
  obtain ⟨m0, m1, -⟩ := id hm
  have hclt := crc.more_lt 0 b.summed
  have hB : b.bytes = wire.be b.base.toNat 8 ++ (wire.be (4 + b.summed.length) 4 ++ (wire.be (crc.more 0 b.summed) 4 ++ b.summed)) := by
    unfold Bat.bytes Bat.front
    simp only [List.append_assoc]
  have d8 : b.bytes.drop 8 = wire.be (4 + b.summed.length) 4 ++ (wire.be (crc.more 0 b.summed) 4 ++ b.summed) := by
    rw [hB]
    exact List.drop_left' (wire.be_len _ _)
  have d12 : b.bytes.drop 12 = wire.be (crc.more 0 b.summed) 4 ++ b.summed := by
    rw [show 12 = 8 + 4 from rfl, ← List.drop_drop, d8]
    exact List.drop_left' (wire.be_len _ _)
  have d16 : b.bytes.drop 16 = b.summed := by
    rw [show 16 = 12 + 4 from rfl, ← List.drop_drop, d12]
    exact List.drop_left' (wire.be_len _ _)
  refine ⟨?_, ?_, ?_, d16⟩
  · rw [hB, List.take_left' (wire.be_len _ _)]
    refine wire.val_be _ 8 ?_
    have : (256 : Nat) ^ 8 = 18446744073709551616 := by decide
    omega
  · rw [d8, List.take_left' (wire.be_len _ _)]
    refine wire.val_be _ 4 ?_
    have : (256 : Nat) ^ 4 = 4294967296 := by decide
    omega
  · rw [d12, List.take_left' (wire.be_len _ _)]
    refine wire.val_be _ 4 ?_
    have : (256 : Nat) ^ 4 = 4294967296 := by decide
    omega
theorem dec.decode_none {L : List Nat} (h : dec.first L = none) : dec.decode L = none := by unfold dec.decode; rw [h]
/-- Cut short, the bytes are none's. -/
theorem dec.decode_cut {b : Bat} (hc : b.check = 0) (k : Nat) (hk : k < b.bytes.length) : dec.decode (b.bytes.take k) = none := by
  obtain ⟨-, p2, -, -⟩ := dec.g_put hc
  obtain ⟨l1, -, -⟩ := Bat.summed_le hc
  refine dec.decode_none ?_
  unfold dec.first
  by_cases h : (dec.g2 (b.bytes.take k)).2.2 = 0
  · obtain ⟨h12, -, g2, r2, -⟩ := dec.g_ok h
    rw [List.length_take] at h12
    refine if_pos (.inr (.inl ?_))
    rw [g2, r2, List.length_drop, List.length_take]
    have e : ((b.bytes.take k).drop 8).take 4 = (b.bytes.drop 8).take 4 := by
      rw [List.drop_take, List.take_take, Nat.min_eq_left (by omega)]
    rw [e, p2]
    omega
  · rw [if_pos (.inl h)]
/-- Longer, they are none's. -/
theorem dec.decode_long {b : Bat} (hc : b.check = 0) (x : Nat) : dec.decode (b.bytes ++ [x]) = none := by
  have h := dec.first_put hc [x]
  unfold dec.decode
  rw [h]
  dsimp only
  rw [if_neg (by simp)]
theorem dec.summed_base {base : Int} {L : List Nat} {b : Bat} (h : dec.summed base L = some b) : b.base = base := by
  unfold dec.summed at h
  split at h
  · cases h
  · split at h
    · cases h
    · split at h
      · obtain rfl := Option.some.inj h
        rfl
      · cases h
/-- With one changed byte they are no batch of this Base. -/
theorem dec.decode_set {b d : Bat} (hc : b.check = 0) (hb : ∀ x ∈ b.bytes, x < 256) (i y : Nat) (hi : i < b.bytes.length) (hy : y < 256) (hne : y ≠ b.bytes.getD i 0) (h : dec.decode (b.bytes.set i y) = some d) : d.base ≠ b.base := by
  obtain ⟨p1, p2, p3, p4⟩ := dec.g_put hc
  obtain ⟨l1, l2, l3⟩ := Bat.summed_le hc
  obtain ⟨m0, -⟩ := (Bat.check_ok hc).1
  obtain ⟨L, hL⟩ : ∃ L, L = b.bytes.set i y := ⟨_, rfl⟩
  have hLl : L.length = b.bytes.length := by rw [hL, List.length_set]
  have hLb : ∀ x ∈ L, x < 256 := fun x hx => by
    rw [hL] at hx
    rcases List.mem_or_eq_of_mem_set hx with h | h
    · exact hb x h
    · rw [h]; exact hy
  have hget : L.getD i 0 = y := by rw [hL]; simp [List.getD, hi]
  -- wherever a piece of both is one and the same, the changed place is not in it
  have hpiece : ∀ a n : Nat, a ≤ i → i < a + n → (L.drop a).take n = (b.bytes.drop a).take n → False := fun a n h1 h2 he => by
    have e := congrArg (fun l => l.getD (i - a) 0) he
    simp only [List.getD, List.getElem?_take, List.getElem?_drop] at e
    rw [if_pos (by omega), if_pos (by omega), show a + (i - a) = i by omega] at e
    have h3 : L.getD i 0 = b.bytes.getD i 0 := by simpa [List.getD] using e
    exact hne (by rw [← hget]; exact h3)
  have hsame : ∀ a n : Nat, (i < a ∨ a + n ≤ i) → (L.drop a).take n = (b.bytes.drop a).take n := fun a n hh => by
    refine List.ext_getElem? fun j => ?_
    simp only [List.getElem?_take, List.getElem?_drop]
    split
    · rw [hL, List.getElem?_set_ne (by omega)]
    · rfl
  have hpl : ∀ a n : Nat, ((L.drop a).take n).length = ((b.bytes.drop a).take n).length := fun a n => by simp only [List.length_take, List.length_drop, hLl]
  have hbyt : ∀ (M : List Nat) (a n : Nat), (∀ x ∈ M, x < 256) → ∀ x ∈ (M.drop a).take n, x < 256 := fun M a n hM x hx => hM x (List.mem_of_mem_drop (List.mem_of_mem_take hx))
  rw [← hL] at h
  unfold dec.decode at h
  split at h
  · cases h
  · rename_i d' u hf
    split at h
    · rename_i hu
      obtain rfl := Option.some.inj h
      unfold dec.first at hf
      split at hf
      · cases hf
      · rename_i hn1
        have herr : (dec.g2 L).2.2 = 0 := by
          by_cases h0 : (dec.g2 L).2.2 = 0
          · exact h0
          · exact absurd (Or.inl h0) hn1
        obtain ⟨h12, g1, g2, r2, g3⟩ := dec.g_ok herr
        have g3 := g3 (by omega)
        split at hf
        · cases hf
        · rename_i hn2
          split at hf
          · cases hf
          · rename_i b' hs
            split at hf
            · cases hf
            · have hf2 := Option.some.inj hf
              obtain ⟨rfl, hu2⟩ : b' = d' ∧ 12 + (dec.g2 L).1.toNat = u := by simpa using hf2
              have hbase := dec.summed_base hs
              rw [g2, Int.toNat_natCast] at hu2
              have hv2 : wire.val ((L.drop 8).take 4) = wire.val ((b.bytes.drop 8).take 4) := by rw [p2]; omega
              have e8 := wire.val_inj (hpl 8 4) (hbyt L 8 4 hLb) (hbyt b.bytes 8 4 hb) hv2
              have hcrc : wire.val ((L.drop 12).take 4) = crc.more 0 (L.drop 16) := by
                have hx : (dec.g3 L).1 = ((crc.more 0 (dec.sum L (dec.g2 L).1.toNat) : Nat) : Int) := by
                  by_cases hx : (dec.g3 L).1 = ((crc.more 0 (dec.sum L (dec.g2 L).1.toNat) : Nat) : Int)
                  · exact hx
                  · exact absurd (Or.inr hx) hn2
                rw [g3, g2, Int.toNat_natCast] at hx
                unfold dec.sum at hx
                rw [hu2, hu, List.take_length] at hx
                omega
              by_cases i16 : 16 ≤ i
              · exfalso
                have e12 := hsame 12 4 (.inr (by omega))
                rw [e12, p3] at hcrc
                have hds : L.drop 16 = b.summed.set (i - 16) y := by
                  rw [← p4, hL, List.drop_set, if_neg (by omega)]
                rw [hds] at hcrc
                refine crc.set_ne b.summed (i - 16) y (by omega) (fun x hx => ?_) hy ?_ hcrc.symm
                · rw [← p4] at hx
                  exact hb x (List.mem_of_mem_drop hx)
                · rw [← p4]
                  simp only [List.getD, List.getElem?_drop]
                  rw [show 16 + (i - 16) = i by omega]
                  exact hne
              · by_cases i12 : 12 ≤ i
                · exfalso
                  have hds : L.drop 16 = b.summed := by
                    rw [← p4, hL, List.drop_set, if_pos (by omega)]
                  rw [hds, ← p3] at hcrc
                  exact hpiece 12 4 i12 (by omega) (wire.val_inj (hpl 12 4) (hbyt L 12 4 hLb) (hbyt b.bytes 12 4 hb) hcrc)
                · by_cases i8 : 8 ≤ i
                  · exact (hpiece 8 4 i8 (by omega) e8).elim
                  · intro hbb
                    rw [hbase, g1] at hbb
                    have hv : wire.val ((L.drop 0).take 8) = wire.val ((b.bytes.drop 0).take 8) := by
                      rw [List.drop_zero, List.drop_zero, p1]
                      omega
                    exact hpiece 0 8 (Nat.zero_le _) (by omega) (wire.val_inj (hpl 0 8) (hbyt L 0 8 hLb) (hbyt b.bytes 0 8 hb) hv)
    · cases h

theorem recsSame_self' : ∀ rs : List Rec, recsSame rs rs = true
  | [] => rfl
  | r :: rs => by
    show (decide (r.Same r) && recsSame rs rs) = true
    rw [recsSame_self' rs, decide_eq_true (show r.Same r from ⟨rfl, rfl, rfl, rfl, rfl, rfl⟩)]
    rfl
theorem Bat.same_self' (b : Bat) : b.same b = true := by
  unfold Bat.same
  rw [recsSame_self', decide_eq_true (show b.heads b from ⟨rfl, rfl, rfl, rfl, rfl⟩)]
  rfl
theorem Bat.bytes_byte' {b : Bat} (hc : b.check = 0) (hb : ∀ r ∈ b.recs, (∀ x ∈ r.key, x < 256) ∧ (∀ x ∈ r.val, x < 256)) : ∀ x ∈ b.bytes, x < 256 := by
  obtain ⟨hm, -, ho, -⟩ := Bat.check_ok hc
  have hs := Bat.summed_byte hm ho hb
  unfold Bat.bytes Bat.front
  intro x hx
  simp only [List.mem_append] at hx
  rcases hx with ((h | h) | h) | h
  · exact wire.be_byte _ _ x h
  · exact wire.be_byte _ _ x h
  · exact wire.be_byte _ _ x h
  · exact hs x h
theorem round_fix (k n : Int) (hk : -9223372036854775808 ≤ k ∧ k ≤ 9223372036854775807) (hn : 0 < n) (hn2 : n ≤ 1099511627776) :
    ∃ r : Nat, (r : Int) < n ∧ ∀ w, Calls Try.prog 26 #[.int .i64 k, .int .i64 n] w fun e w' => e = .returned (.int .i64 (r : Int)) ∧ w = w' := by
  obtain ⟨k1, k2⟩ := hk
  have h1 := Int.tmod_lt_of_pos k hn
  have h2 : -n < k.tmod n := by
    have := Int.tmod_lt_of_pos (-k) hn
    rw [Int.neg_tmod] at this; omega
  have hne : n ≠ 0 := by omega
  by_cases hneg : k.tmod n < 0
  · refine ⟨(k.tmod n + n).toNat, by omega, fun w => ?_⟩
    go_enter Try.func26, Try.ntmps26
    go_wp2
    go_ret
    exact ⟨ret_num (by omega), rfl⟩
  · refine ⟨(k.tmod n).toNat, by omega, fun w => ?_⟩
    go_enter Try.func26, Try.ntmps26
    go_wp2
    go_ret
    exact ⟨ret_num (by omega), rfl⟩
theorem Bat.same_base {b d : Bat} (h : d.base ≠ b.base) : b.same d = false := by
  unfold Bat.same
  rw [decide_eq_false (fun hh : b.heads d => h hh.1.symm)]
  rfl
theorem xor_ne (y x : Nat) (h : x ≠ 0) : y ^^^ x ≠ y := fun e => h (by
  have h2 := congrArg (fun z => y ^^^ z) e
  simpa [← Nat.xor_assoc] using h2)
/-- A row of bytes laid empty. -/
theorem Acc.empty (w3 w : World) (hb : Below w3.heap.size w3 w) : Acc w3 (.slice (some ⟨w.heap.size, 0, none⟩) 0 0) [] (w.alloc (.cells #[] 5)) :=
  ⟨World.ownsRow_made w #[] 0 hb.size (by unfold maxLen; omega) (by simp), hb.alloc hb.size _⟩
/-- A byte of it is written over. -/
theorem Acc.set {w3 w : World} {g n cap : Nat} {L : List Nat} (h : Acc w3 (.slice (some ⟨g, 0, none⟩) n cap) L w) (hn : L.length = n) (i y : Nat) : Acc w3 (.slice (some ⟨g, 0, none⟩) n cap) (L.set i y) (w.setCell ⟨g, i, none⟩ (.int .u8 (y : Int))) := by
  obtain ⟨h1, h2⟩ := h
  rw [hn] at h1
  obtain ⟨k1, k2⟩ := h1.stored i (.int .u8 (y : Int))
  refine ⟨?_, h2.grown k2 h2.size (fun k hk => by obtain rfl : g = k := by simpa using hk
                                                  exact (h1.lt g rfl).1)⟩
  rw [List.length_set, hn]
  have e : u8s (L.set i y) = (u8s L).set i (.int .u8 (y : Int)) := by unfold u8s; rw [List.map_set]
  rw [e]
  exact k1

set_option maxRecDepth 20000 in
set_option maxHeartbeats 4000000 in
theorem bat.lawBack (b : Bat) (A : Option Addr) (c : Nat) (cut at' : Int) (x : Int) (w : World) (hv : RecsV w (.slice A b.recs.length c) b.recs) (hx : (Lit.int .u8 x).wf = true) (hcut : -9223372036854775808 ≤ cut ∧ cut ≤ 9223372036854775807) (hat' : -9223372036854775808 ≤ at' ∧ at' ≤ 9223372036854775807) :
    Calls Try.prog 5 #[b.hval A b.recs.length c, .int .i64 cut, .int .i64 at', .int .u8 x] w fun e w' => e = .returned (.bool true) ∧ Below w.heap.size w w' := by
  have hxb : 0 ≤ x ∧ x ≤ 255 := by
    have h1 : IntKind.u8.min = 0 := rfl
    have h2 : IntKind.u8.max = 255 := rfl
    simp only [Lit.wf, Bool.and_eq_true, decide_eq_true_eq] at hx
    omega
  obtain ⟨xn, rfl⟩ : ∃ xn : Nat, x = (xn : Int) := ⟨x.toNat, by omega⟩
  have hx8 : xn < 256 := by omega
  clear hx hxb
  have hlen : b.recs.length ≤ maxLen := by
    obtain ⟨A', c', V, h, h1, h2, -⟩ := hv
    exact Nat.le_trans h1 h2
  unfold maxLen at hlen
  have HV := Lib.hid hv; clear hv
  have HCUT := Lib.hid (And.intro hcut hat'); clear hcut hat'
  have hgo : ∀ wx, Calls Try.prog 12 #[] wx fun e w' => e = .returned (.bool true) ∧ Below wx.heap.size wx w' := law5.awake
  have HGO := Lib.hid hgo; clear hgo
  have hwg := fun wx (h : Below w.heap.size w wx) => alike.batch_any b _ wx (HV.out.below h (Nat.le_refl _))
  have hckq := fun wx (h : Below w.heap.size w wx) => ref.check_any b A c wx (HV.out.below h (Nat.le_refl _))
  have henc := fun (hc : b.check = 0) wx (h : Below w.heap.size w wx) => bat.encode_any b A c wx (HV.out.below h (Nat.le_refl _)) hc
  have hsam := fun (d : Bat) A' c' wx (h : Below w.heap.size w wx) (hd : RecsV wx (.slice A' d.recs.length c') d.recs) => bat.same_any b d A c A' c' wx (HV.out.below h (Nat.le_refl _)) hd
  have hsar := fun (d : Bat) A' c' wx (h : Below w.heap.size w wx) (hd : RecsV wx (.slice A' d.recs.length c') d.recs) => ref.same_any b d A c A' c' wx (HV.out.below h (Nat.le_refl _)) hd
  obtain ⟨E, hE⟩ : ∃ E, E = b.check := ⟨_, rfl⟩
  obtain ⟨W, hW⟩ : ∃ W, W = b.weight := ⟨_, rfl⟩
  obtain ⟨n, hn⟩ : ∃ n, n = b.recs.length := ⟨_, rfl⟩
  have hby := RecsV.byte HV.out
  rw [← hE] at hckq
  rw [← hW] at hwg
  unfold Bat.hval at *
  rw [← hn] at hckq hwg HV hlen henc hsam hsar ⊢
  have HN := Lib.hid hn; clear hn
  have HBY := Lib.hid hby; clear hby
  have HE := Lib.hid hE; clear hE hW
  have HWG := Lib.hid hwg; clear hwg
  have HCKQ := Lib.hid hckq; clear hckq
  have HENC := Lib.hid henc; clear henc
  have HSAM := Lib.hid hsam; clear hsam
  have HSAR := Lib.hid hsar; clear hsar
  go_enter Try.func5, Try.ntmps5
  go_wp2_with fail
  obtain ⟨w1, hw1⟩ : ∃ w1, w1 = w.alloc (.cells #[.int .i64 b.base, .int .i64 b.last, .int .i64 b.prod, .int .i64 b.epoch, .int .i64 b.seq, .slice A n c] 24) := ⟨_, rfl⟩
  rw [← hw1]
  have hbk : Blk w1 w.heap.size 24 #[.int .i64 b.base, .int .i64 b.last, .int .i64 b.prod, .int .i64 b.epoch, .int .i64 b.seq, .slice A n c] := by rw [hw1]; exact Blk.new _ _ _
  have hb1 : Below w.heap.size w w1 := by rw [hw1]; exact (Below.refl _ w).alloc (Nat.le_refl _) _
  clear hw1
  have HBK := Lib.hid hbk; clear hbk
  have HB1 := Lib.hid hb1; clear hb1
  refine (HWG.out w1 HB1.out).mono ?_
  rintro e w2 ⟨rfl, hb2⟩
  have HK2 := Lib.hid ((chg_of (P := fun _ => False) hb2).blk HBK.out id)
  have HB2 := Lib.hid (HB1.out.trans (hb2.mono HB1.out.size)); clear hb2 HBK HB1 HWG
  have c0 : w2.cell? ⟨w.heap.size, 0, none⟩ = some (.int .i64 b.base) := HK2.out.cell 0 rfl
  have c1 : w2.cell? ⟨w.heap.size, 1, none⟩ = some (.int .i64 b.last) := HK2.out.cell 1 rfl
  have c2 : w2.cell? ⟨w.heap.size, 2, none⟩ = some (.int .i64 b.prod) := HK2.out.cell 2 rfl
  have c3 : w2.cell? ⟨w.heap.size, 3, none⟩ = some (.int .i64 b.epoch) := HK2.out.cell 3 rfl
  have c4 : w2.cell? ⟨w.heap.size, 4, none⟩ = some (.int .i64 b.seq) := HK2.out.cell 4 rfl
  have c5 : w2.cell? ⟨w.heap.size, 5, none⟩ = some (.slice A n c) := HK2.out.cell 5 rfl
  by_cases hsm : 5000 < W ∨ 200 < n
  · have hsm2 : 5000 < W ∨ (¬ 5000 < W ∧ 200 < n) := by omega
    clear hsm
    rcases hsm2 with h1 | ⟨h1, h2⟩
    all_goals
      go_wp2_with fail
      refine (HGO.out w2).mono ?_
      rintro e w3 ⟨rfl, hb3⟩
      have HL3 := Lib.hid (HB2.out.trans (hb3.mono HB2.out.size)); clear hb3
      go_wp2
      go_ret
      exact ⟨rfl, HL3.out⟩
  · have h1 : ¬ 5000 < W := by omega
    have h2 : ¬ 200 < n := by omega
    clear hsm
    go_wp2_with fail
    refine (HCKQ.out w2 HB2.out).mono ?_
    rintro e w3 ⟨rfl, hb3⟩
    have HK3 := Lib.hid ((chg_of (P := fun _ => False) hb3).blk HK2.out id)
    have HB3 := Lib.hid (HB2.out.trans (hb3.mono HB2.out.size)); clear hb3 HK2 HB2 HCKQ c0 c1 c2 c3 c4 c5
    by_cases hE0 : E = 0
    · have hd : (E != 0) = false := by simpa using hE0
      have hchk : b.check = 0 := by rw [← HE.out]; exact hE0
      have hbl := Bat.summed_le hchk
      obtain ⟨L, hL⟩ : ∃ L, L = b.bytes := ⟨_, rfl⟩
      obtain ⟨nb, hnb⟩ : ∃ nb, nb = L.length := ⟨_, rfl⟩
      have hnb50 : 50 ≤ nb := by rw [hnb, hL]; omega
      have hnb2 : nb ≤ 65536 := by rw [hnb, hL]; omega
      have hbyt := Bat.bytes_byte' hchk HBY.out
      rw [← hL] at hbyt
      have HL := Lib.hid hL
      have HNB := Lib.hid hnb
      have HBYT := Lib.hid hbyt; clear hbyt hbl
      have henc := HENC.out hchk
      rw [← hL, ← hnb] at henc
      have HENC2 := Lib.hid henc; clear henc HENC hL hnb
      have HCHK := Lib.hid hchk; clear hchk hE0
      have c0 : w3.cell? ⟨w.heap.size, 0, none⟩ = some (.int .i64 b.base) := HK3.out.cell 0 rfl
      have c1 : w3.cell? ⟨w.heap.size, 1, none⟩ = some (.int .i64 b.last) := HK3.out.cell 1 rfl
      have c2 : w3.cell? ⟨w.heap.size, 2, none⟩ = some (.int .i64 b.prod) := HK3.out.cell 2 rfl
      have c3 : w3.cell? ⟨w.heap.size, 3, none⟩ = some (.int .i64 b.epoch) := HK3.out.cell 3 rfl
      have c4 : w3.cell? ⟨w.heap.size, 4, none⟩ = some (.int .i64 b.seq) := HK3.out.cell 4 rfl
      have c5 : w3.cell? ⟨w.heap.size, 5, none⟩ = some (.slice A n c) := HK3.out.cell 5 rfl
      go_upto_region 3 with fail
      clear h1 h2 hd
      try generalize decide (5000 < W) = dw
      try generalize decide (200 < (n : Int)) = dn
      go_wp2_with fail
      refine (HENC2.out w3 HB3.out).mono ?_
      rintro e w4 ⟨⟨v4, rfl, ho4⟩, hb4⟩
      obtain ⟨Ap, cp, rfl, hcp, -, hatp⟩ := own_bytes ho4
      have hcp2 : cp ≤ maxLen := own_cap ho4
      have HK4 := Lib.hid ((chg_of (P := fun _ => False) hb4).blk HK3.out id)
      have HB4 := Lib.hid (HB3.out.trans (hb4.mono HB3.out.size)); clear ho4 hb4 HK3 HB3 HENC2 c0 c1 c2 c3 c4 c5
      have HATP := Lib.hid hatp; clear hatp
      unfold maxLen at hcp2
      have hlt50 : ¬ nb < 50 := by omega
      have hdec := fun (M : List Nat) (m : Nat) (A2 : Option Addr) (c2 : Nat) wx (hM : M.length = m) (h : At wx A2 m (byteAt M)) (hb : ∀ x ∈ M, x < 256) (h1 : m ≤ c2) (h2 : c2 ≤ maxLen) => bat.decode_any A2 c2 M wx (by rw [hM]; exact h) hb (by rw [hM]; exact h1) h2
      go_wp2_with fail
      refine ((by have h := hdec L nb Ap cp w4 HNB.out.symm HATP.out HBYT.out hcp (by unfold maxLen; omega); rw [← HNB.out] at h; exact h) : Calls _ _ _ _ _).mono ?_
      rintro e w5 ⟨hres, hb5⟩
      have hput := dec.decode_put HCHK.out
      rw [← HL.out] at hput
      obtain ⟨A1, c1, hrv1, rfl⟩ : ∃ A1 c1, RecsV w5 (.slice A1 n c1) b.recs ∧ e = .returned (.tuple #[.agg #[.int .i64 b.base, .int .i64 b.last, .int .i64 b.prod, .int .i64 b.epoch, .int .i64 b.seq, .slice A1 n c1], .int .i64 0]) := by
        rcases hres with ⟨h1, -⟩ | ⟨b', A', c', h1, h2, h3⟩
        · rw [hput] at h1; cases h1
        · rw [hput] at h1
          obtain rfl : b = b' := Option.some.inj h1
          rw [← HN.out] at h2
          unfold Bat.hval at h3
          rw [← HN.out] at h3
          exact ⟨A', c', h2, h3⟩
      clear hres hput
      have HRV1 := Lib.hid hrv1; clear hrv1
      have HATP5 := Lib.hid (HATP.out.below hb5 (Nat.le_refl _)); clear HATP
      have HK5 := Lib.hid ((chg_of (P := fun _ => False) hb5).blk HK4.out id)
      have HB5 := Lib.hid (HB4.out.trans (hb5.mono HB4.out.size)); clear hb5 HK4 HB4
      have HDEC := Lib.hid hdec; clear hdec
      go_upto_region 7 with fail
      obtain ⟨w6, hw6⟩ : ∃ w6, w6 = w5.alloc (.cells #[.int .i64 b.base, .int .i64 b.last, .int .i64 b.prod, .int .i64 b.epoch, .int .i64 b.seq, .slice A1 n c1] 24) := ⟨_, rfl⟩
      rw [← hw6]
      have hb56 : Below w5.heap.size w5 w6 := by rw [hw6]; exact (Below.refl _ w5).alloc (Nat.le_refl _) _
      obtain ⟨bd, hbd⟩ : ∃ bd, bd = w5.heap.size := ⟨_, rfl⟩
      have HKD := Lib.hid (show Blk w6 bd 24 #[.int .i64 b.base, .int .i64 b.last, .int .i64 b.prod, .int .i64 b.epoch, .int .i64 b.seq, .slice A1 n c1] by rw [hw6, hbd]; exact Blk.new _ _ _)
      have HK6 := Lib.hid ((chg_of (P := fun _ => False) hb56).blk HK5.out id)
      have HATP6 := Lib.hid (HATP5.out.below hb56 (Nat.le_refl _)); clear HATP5
      have HRV6 := Lib.hid (HRV1.out.below hb56 (Nat.le_refl _)); clear HRV1
      have HB6 := Lib.hid (HB5.out.trans (hb56.mono HB5.out.size))
      rw [← hbd]
      clear hw6 hb56 hbd HK5 HB5
      obtain ⟨r1, hr1, hrd1⟩ := round_fix cut (nb : Int) HCUT.out.1 (by omega) (by omega)
      have hr1n : r1 < nb := by omega
      have HRD1 := Lib.hid hrd1; clear hrd1 hr1
      have hbt : ∀ y ∈ L.take r1, y < 256 := fun y hy => HBYT.out y (List.mem_of_mem_take hy)
      have hd1 := fun wx (h : Below w6.heap.size w6 wx) => HDEC.out (L.take r1) r1 Ap cp wx (by rw [List.length_take, ← HNB.out]; omega) ((HATP6.out.below h (Nat.le_refl _)).byte_le r1 (by omega)) hbt (by omega) (by unfold maxLen; omega)
      have hcutn := dec.decode_cut HCHK.out r1 (by rw [← HL.out, ← HNB.out]; exact hr1n)
      rw [← HL.out] at hcutn
      have hd1' : ∀ wx, Below w6.heap.size w6 wx → Calls Try.prog 21 #[.slice Ap r1 cp] wx fun e w' => e = .returned (.tuple #[.agg #[.int .i64 0, .int .i64 0, .int .i64 0, .int .i64 0, .int .i64 0, .slice none 0 0], .int .i64 2]) ∧ Below wx.heap.size wx w' := fun wx h => by
        have h2 := hd1 wx h
        rw [show (L.take r1).length = r1 by rw [List.length_take, ← HNB.out]; omega] at h2
        refine h2.mono ?_
        rintro e w' ⟨hres, hb⟩
        rcases hres with ⟨-, rfl⟩ | ⟨b', A', c', h1, -⟩
        · exact ⟨rfl, hb⟩
        · rw [hcutn] at h1; cases h1
      have HD1 := Lib.hid hd1'; clear hd1 hd1' hcutn hbt
      go_wp2_with fail
      refine (HRD1.out w6).mono ?_
      rintro e wx ⟨rfl, rfl⟩
      go_wp2_with fail
      refine (HD1.out w6 (Below.refl _ _)).mono ?_
      rintro e w7 ⟨rfl, hb7⟩
      have HB67 := Lib.hid hb7; clear hb7 HD1 HRD1
      go_upto_region 8 with fail
      obtain ⟨w8, hw8⟩ : ∃ w8, w8 = w7.alloc (.cells #[.int .i64 0, .int .i64 0, .int .i64 0, .int .i64 0, .int .i64 0, .slice none 0 0] 24) := ⟨_, rfl⟩
      rw [← hw8]
      have HB68 := Lib.hid (show Below w6.heap.size w6 w8 by rw [hw8]; exact HB67.out.alloc HB67.out.size _)
      clear hw8 HB67
      have hat1 : At (w8.alloc (.cells #[] 5)) Ap nb (byteAt L) := (HATP6.out.below HB68.out (Nat.le_refl _)).alloc _
      have HAT1 := Lib.hid hat1; clear hat1
      have hsrc : ∀ wx : World, At (wx.alloc (.cells #[.int .u8 (xn : Int)] 5)) (some ⟨wx.heap.size, 0, none⟩) 1 (byteAt [xn]) := fun wx => (At.one wx (.int .u8 (xn : Int)) 5).congr fun j hj => by
        obtain rfl : j = 0 := by omega
        rfl
      have HSRC := Lib.hid hsrc; clear hsrc
      go_wp2_with (first
        | (at_builtin; refine wpList_acc rfl (.tmp 65) (.tmp 67) rfl _ _ rfl (HA10.out.keep ((Below.refl _ _).alloc (Nat.le_refl _) _)) _ 1 1 [xn] rfl rfl (HSRC.out _) (by rw [List.nil_append, ← HNB.out]; simp; omega) ?_; intro v68 w12 hA; obtain ⟨A68, c68, hv68, hle68, hat68⟩ := hA.at'; subst hv68; have hcm68 : c68 ≤ maxLen := own_cap hA.1; have HA12 := Lib.hid (And.intro hA (And.intro hle68 (And.intro hat68 hcm68))); clear hA hle68 hat68 hcm68; rw [List.nil_append] at HA12; obtain ⟨m68, hm68⟩ : ∃ m, m = ([] ++ L ++ [xn]).length := ⟨_, rfl⟩; rw [← hm68]; rw [List.nil_append] at hm68; have HM68 := Lib.hid hm68; clear hm68)
        | (at_builtin; refine wpList_acc rfl (.tmp 63) (.tmp 64) rfl _ _ rfl (Acc.empty w8 w8 (Below.refl _ _)) Ap nb cp L rfl HNB.out.symm HAT1.out (by rw [← HNB.out]; simp; omega) ?_; intro v65 w10 hA; have HA10 := Lib.hid hA; clear hA))
      have hlongn := dec.decode_long HCHK.out xn
      rw [← HL.out] at hlongn
      have hbl : ∀ y ∈ L ++ [xn], y < 256 := fun y hy => by
        rcases List.mem_append.1 hy with h | h
        · exact HBYT.out y h
        · rw [List.mem_singleton.1 h]; exact hx8
      have hd2 := HDEC.out (L ++ [xn]) m68 A68 c68 w12 HM68.out.symm (by rw [HM68.out]; exact HA12.out.2.2.1) hbl (by rw [HM68.out]; exact HA12.out.2.1) HA12.out.2.2.2
      rw [← HM68.out, hlongn] at hd2
      have HD2 := Lib.hid hd2; clear hd2 hlongn hbl
      have HB812 := Lib.hid HA12.out.1.2; clear HA12
      refine HD2.out.mono ?_
      rintro e w13 ⟨hres, hb13⟩
      obtain rfl : e = .returned (.tuple #[.agg #[.int .i64 0, .int .i64 0, .int .i64 0, .int .i64 0, .int .i64 0, .slice none 0 0], .int .i64 2]) := by
        rcases hres with ⟨-, h⟩ | ⟨b', A', c', h1, -⟩
        · exact h
        · cases h1
      clear hres HD2
      have HB13 := Lib.hid (HB68.out.trans ((HB812.out.trans (hb13.mono HB812.out.size)).mono HB68.out.size)); clear hb13 HB812 HB68
      go_upto_region 9 with fail
      obtain ⟨w14, hw14⟩ : ∃ w14, w14 = w13.alloc (.cells #[.int .i64 0, .int .i64 0, .int .i64 0, .int .i64 0, .int .i64 0, .slice none 0 0] 24) := ⟨_, rfl⟩
      rw [← hw14]
      have HB14 := Lib.hid (show Below w6.heap.size w6 w14 by rw [hw14]; exact HB13.out.alloc HB13.out.size _)
      clear hw14 HB13
      have HK14 := Lib.hid ((chg_of (P := fun _ => False) HB14.out).blk HK6.out id)
      have HKD14 := Lib.hid ((chg_of (P := fun _ => False) HB14.out).blk HKD.out id)
      have hsame := fun wx (h : Below w6.heap.size w6 wx) => HSAM.out b A1 c1 wx (HB6.out.trans (h.mono HB6.out.size)) (by rw [← HN.out]; exact HRV6.out.below h (Nat.le_refl _))
      have hsamr := fun wx (h : Below w6.heap.size w6 wx) => HSAR.out b A1 c1 wx (HB6.out.trans (h.mono HB6.out.size)) (by rw [← HN.out]; exact HRV6.out.below h (Nat.le_refl _))
      rw [Bat.same_self', ← HN.out] at hsame hsamr
      have HSAME := Lib.hid hsame; clear hsame
      have HSAMR := Lib.hid hsamr; clear hsamr
      have u0 : w14.cell? ⟨w.heap.size, 0, none⟩ = some (.int .i64 b.base) := HK14.out.cell 0 rfl
      have u1 : w14.cell? ⟨w.heap.size, 1, none⟩ = some (.int .i64 b.last) := HK14.out.cell 1 rfl
      have u2 : w14.cell? ⟨w.heap.size, 2, none⟩ = some (.int .i64 b.prod) := HK14.out.cell 2 rfl
      have u3 : w14.cell? ⟨w.heap.size, 3, none⟩ = some (.int .i64 b.epoch) := HK14.out.cell 3 rfl
      have u4 : w14.cell? ⟨w.heap.size, 4, none⟩ = some (.int .i64 b.seq) := HK14.out.cell 4 rfl
      have u5 : w14.cell? ⟨w.heap.size, 5, none⟩ = some (.slice A n c) := HK14.out.cell 5 rfl
      have d0 : w14.cell? ⟨bd, 0, none⟩ = some (.int .i64 b.base) := HKD14.out.cell 0 rfl
      have d1 : w14.cell? ⟨bd, 1, none⟩ = some (.int .i64 b.last) := HKD14.out.cell 1 rfl
      have d2 : w14.cell? ⟨bd, 2, none⟩ = some (.int .i64 b.prod) := HKD14.out.cell 2 rfl
      have d3 : w14.cell? ⟨bd, 3, none⟩ = some (.int .i64 b.epoch) := HKD14.out.cell 3 rfl
      have d4 : w14.cell? ⟨bd, 4, none⟩ = some (.int .i64 b.seq) := HKD14.out.cell 4 rfl
      have d5 : w14.cell? ⟨bd, 5, none⟩ = some (.slice A1 n c1) := HKD14.out.cell 5 rfl
      go_wp2_with fail
      refine (HSAME.out w14 HB14.out).mono ?_
      rintro e w15 ⟨rfl, hb15⟩
      have HB15 := Lib.hid (HB14.out.trans (hb15.mono HB14.out.size)); clear hb15
      clear u0 u1 u2 u3 u4 u5 d0 d1 d2 d3 d4 d5 HSAME HK14 HKD14 HB14
      have HK15 := Lib.hid ((chg_of (P := fun _ => False) HB15.out).blk HK6.out id)
      have HKD15 := Lib.hid ((chg_of (P := fun _ => False) HB15.out).blk HKD.out id)
      have u0 : w15.cell? ⟨w.heap.size, 0, none⟩ = some (.int .i64 b.base) := HK15.out.cell 0 rfl
      have u1 : w15.cell? ⟨w.heap.size, 1, none⟩ = some (.int .i64 b.last) := HK15.out.cell 1 rfl
      have u2 : w15.cell? ⟨w.heap.size, 2, none⟩ = some (.int .i64 b.prod) := HK15.out.cell 2 rfl
      have u3 : w15.cell? ⟨w.heap.size, 3, none⟩ = some (.int .i64 b.epoch) := HK15.out.cell 3 rfl
      have u4 : w15.cell? ⟨w.heap.size, 4, none⟩ = some (.int .i64 b.seq) := HK15.out.cell 4 rfl
      have u5 : w15.cell? ⟨w.heap.size, 5, none⟩ = some (.slice A n c) := HK15.out.cell 5 rfl
      have d0 : w15.cell? ⟨bd, 0, none⟩ = some (.int .i64 b.base) := HKD15.out.cell 0 rfl
      have d1 : w15.cell? ⟨bd, 1, none⟩ = some (.int .i64 b.last) := HKD15.out.cell 1 rfl
      have d2 : w15.cell? ⟨bd, 2, none⟩ = some (.int .i64 b.prod) := HKD15.out.cell 2 rfl
      have d3 : w15.cell? ⟨bd, 3, none⟩ = some (.int .i64 b.epoch) := HKD15.out.cell 3 rfl
      have d4 : w15.cell? ⟨bd, 4, none⟩ = some (.int .i64 b.seq) := HKD15.out.cell 4 rfl
      have d5 : w15.cell? ⟨bd, 5, none⟩ = some (.slice A1 n c1) := HKD15.out.cell 5 rfl
      go_wp2_with fail
      refine (HSAMR.out w15 HB15.out).mono ?_
      rintro e w16 ⟨rfl, hb16⟩
      have HB16 := Lib.hid (HB15.out.trans (hb16.mono HB15.out.size)); clear hb16
      clear u0 u1 u2 u3 u4 u5 d0 d1 d2 d3 d4 d5 HSAMR HK15 HKD15 HB15
      by_cases hx0 : xn = 0
      · have hdx : ((xn : Int) != 0) = false := by simp [hx0]
        have HX0 := Lib.hid hx0; clear hx0
        go_wp2_with fail
        refine (HGO.out w16).mono ?_
        rintro e w17 ⟨rfl, hb17⟩
        have HL17 := Lib.hid (HB16.out.trans (hb17.mono HB16.out.size)); clear hb17
        go_wp2
        go_ret
        exact ⟨rfl, HB6.out.trans (HL17.out.mono HB6.out.size)⟩
      · have hdx : ((xn : Int) != 0) = true := by simp; omega
        have HX0 := Lib.hid hx0; clear hx0
        have hat2 : At (w16.alloc (.cells #[] 5)) Ap nb (byteAt L) := (HATP6.out.below HB16.out (Nat.le_refl _)).alloc _
        have HAT2 := Lib.hid hat2; clear hat2
        go_upto_region 13 with (at_builtin; go_loud (refine wpList_acc rfl (.tmp 96) (.tmp 97) rfl _ _ rfl (Acc.empty w16 w16 (Below.refl _ _)) Ap nb cp L rfl HNB.out.symm HAT2.out (by rw [← HNB.out]; simp; omega) ?_; intro v98 w18 hA; rw [List.nil_append] at hA; have HA18 := Lib.hid hA; clear hA))
        obtain ⟨g, cq, hv98, hq1, hq2, hq3, hq4, -⟩ := own_pos5 HA18.out.1 (by rw [← HNB.out]; omega)
        subst hv98
        have hA18 := HA18.out
        rw [← HNB.out] at hA18 hq1 ⊢
        have HA18' := Lib.hid hA18; clear hA18 HA18
        obtain ⟨r2, hr2, hrd2⟩ := round_fix at' (nb : Int) HCUT.out.2 (by omega) (by omega)
        have hr2n : r2 < nb := by omega
        have HRD2 := Lib.hid hrd2; clear hrd2 hr2
        obtain ⟨y, hy⟩ : ∃ y, y = L.getD r2 0 := ⟨_, rfl⟩
        have hy8 : y < 256 := by rw [hy]; exact getD_lt HBYT.out r2 (by rw [← HNB.out]; exact hr2n)
        have hat18 : At w18 (some ⟨g, 0, none⟩) nb (byteAt L) := by
          obtain ⟨Aq, cq', he, -, hatq⟩ := HA18'.out.at'
          rw [← HNB.out] at he hatq
          obtain ⟨rfl, rfl⟩ : some ⟨g, 0, none⟩ = Aq ∧ cq = cq' := by simpa using he
          exact hatq
        have s0 : w18.cell? ⟨g, r2, none⟩ = some (.int .u8 (y : Int)) := by
          obtain ⟨g', o', e1, -, hc⟩ := hat18 (by omega)
          obtain ⟨rfl, rfl⟩ : g = g' ∧ 0 = o' := by simpa using e1
          have := hc r2 hr2n
          rw [Nat.zero_add] at this
          rw [this, hy]
          rfl
        have s1 : w18.frozen? ⟨g, r2, none⟩ = false := (show w18.ownsRow w16.heap.size 5 1 (.slice (some ⟨g, 0, none⟩) nb cq) nb (u8s L) by have h := HA18'.out.1; rw [← HNB.out] at h; exact h).frozenAt r2
        have hxor : Go.bits .xor .u8 (y : Int) (xn : Int) = ((y ^^^ xn : Nat) : Int) := u8_xor_nat y xn hy8 hx8
        have hyx : y ^^^ xn < 256 := Nat.xor_lt_two_pow (n := 8) hy8 hx8
        have hset := HA18'.out.set HNB.out.symm r2 (y ^^^ xn)
        have hdset := fun d => dec.decode_set (d := d) HCHK.out (by rw [← HL.out]; exact HBYT.out) r2 (y ^^^ xn) (by rw [← HL.out, ← HNB.out]; exact hr2n) hyx (by rw [← HL.out, ← hy]; exact xor_ne y xn HX0.out)
        rw [← HL.out] at hdset
        have HDSET := Lib.hid hdset; clear hdset hy
        clear hat18
        obtain ⟨Y, hY⟩ : ∃ Y, Y = y ^^^ xn := ⟨_, rfl⟩
        rw [← hY] at hxor hset HDSET hyx
        clear hY
        have HSET := Lib.hid hset; clear hset
        go_upto_region 14 with (first | (go_at_call 26; refine (HRD2.out _).mono ?_; rintro e wx ⟨rfl, rfl⟩))
        obtain ⟨w19, hw19⟩ : ∃ w19, w19 = w18.setCell ⟨g, r2, none⟩ (.int .u8 (Y : Int)) := ⟨_, rfl⟩
        rw [← hw19]
        have hset := HSET.out
        rw [← hw19] at hset
        clear hw19 s0 s1 hxor HSET HA18'
        obtain ⟨M, hM⟩ : ∃ M, M = L.set r2 Y := ⟨_, rfl⟩
        rw [← hM] at hset HDSET
        have hMl : M.length = nb := by rw [hM, List.length_set, ← HNB.out]
        have hMb : ∀ z ∈ M, z < 256 := fun z hz => by
          rw [hM] at hz
          rcases List.mem_or_eq_of_mem_set hz with h | h
          · exact HBYT.out z h
          · rw [h]; exact hyx
        have hatm : At w19 (some ⟨g, 0, none⟩) nb (byteAt M) := by
          obtain ⟨Aq, cq', he, -, hatq⟩ := hset.at'
          rw [hMl] at he hatq
          obtain ⟨rfl, rfl⟩ : some ⟨g, 0, none⟩ = Aq ∧ cq = cq' := by simpa using he
          exact hatq
        have hd3 := HDEC.out M nb (some ⟨g, 0, none⟩) cq w19 hMl hatm hMb hq1 hq2
        rw [hMl] at hd3
        have HD3 := Lib.hid hd3; clear hd3 hatm hMb hMl hM
        have HB19 := Lib.hid (HB16.out.trans (hset.2.mono HB16.out.size)); clear hset
        unfold maxLen at hq2
        go_wp2_with fail
        refine HD3.out.mono ?_
        rintro e w20 ⟨hres, hb20⟩
        have HB20 := Lib.hid (HB19.out.trans (hb20.mono HB19.out.size)); clear hb20 HD3
        rcases hres with ⟨-, rfl⟩ | ⟨dd, A', c', h1, hrvd, rfl⟩
        · go_upto_region 15 with fail
          obtain ⟨w21, hw21⟩ : ∃ w21, w21 = w20.alloc (.cells #[.int .i64 0, .int .i64 0, .int .i64 0, .int .i64 0, .int .i64 0, .slice none 0 0] 24) := ⟨_, rfl⟩
          rw [← hw21]
          have HB21 := Lib.hid (show Below w6.heap.size w6 w21 by rw [hw21]; exact HB20.out.alloc HB20.out.size _)
          clear hw21
          go_wp2_with fail
          refine (HGO.out w21).mono ?_
          rintro e w22 ⟨rfl, hb22⟩
          have HB22 := Lib.hid (HB21.out.trans (hb22.mono HB21.out.size)); clear hb22
          go_wp2
          go_ret
          exact ⟨rfl, HB6.out.trans (HB22.out.mono HB6.out.size)⟩
        · have hnb2' := HDSET.out dd h1
          obtain ⟨nd, hnd⟩ : ∃ nd, nd = dd.recs.length := ⟨_, rfl⟩
          unfold Bat.hval
          rw [← hnd]
          have HND := Lib.hid hnd; clear hnd
          go_upto_region 15 with fail
          obtain ⟨w21, hw21⟩ : ∃ w21, w21 = w20.alloc (.cells #[.int .i64 dd.base, .int .i64 dd.last, .int .i64 dd.prod, .int .i64 dd.epoch, .int .i64 dd.seq, .slice A' nd c'] 24) := ⟨_, rfl⟩
          rw [← hw21]
          have hb21 : Below w20.heap.size w20 w21 := by rw [hw21]; exact (Below.refl _ w20).alloc (Nat.le_refl _) _
          obtain ⟨be, hbe⟩ : ∃ be, be = w20.heap.size := ⟨_, rfl⟩
          have HKE := Lib.hid (show Blk w21 be 24 #[.int .i64 dd.base, .int .i64 dd.last, .int .i64 dd.prod, .int .i64 dd.epoch, .int .i64 dd.seq, .slice A' nd c'] by rw [hw21, hbe]; exact Blk.new _ _ _)
          have HB21 := Lib.hid (HB20.out.trans (hb21.mono HB20.out.size))
          have HK21 := Lib.hid ((chg_of (P := fun _ => False) HB21.out).blk HK6.out id)
          have hsd := HSAM.out dd A' c' w21 (HB6.out.trans (HB21.out.mono HB6.out.size)) (hrvd.below hb21 (Nat.le_refl _))
          rw [Bat.same_base hnb2', ← HND.out] at hsd
          have HSD := Lib.hid hsd; clear hsd hrvd h1 hnb2' hb21 hw21
          rw [← hbe]
          clear hbe
          have u0 : w21.cell? ⟨w.heap.size, 0, none⟩ = some (.int .i64 b.base) := HK21.out.cell 0 rfl
          have u1 : w21.cell? ⟨w.heap.size, 1, none⟩ = some (.int .i64 b.last) := HK21.out.cell 1 rfl
          have u2 : w21.cell? ⟨w.heap.size, 2, none⟩ = some (.int .i64 b.prod) := HK21.out.cell 2 rfl
          have u3 : w21.cell? ⟨w.heap.size, 3, none⟩ = some (.int .i64 b.epoch) := HK21.out.cell 3 rfl
          have u4 : w21.cell? ⟨w.heap.size, 4, none⟩ = some (.int .i64 b.seq) := HK21.out.cell 4 rfl
          have u5 : w21.cell? ⟨w.heap.size, 5, none⟩ = some (.slice A n c) := HK21.out.cell 5 rfl
          have d0 : w21.cell? ⟨be, 0, none⟩ = some (.int .i64 dd.base) := HKE.out.cell 0 rfl
          have d1 : w21.cell? ⟨be, 1, none⟩ = some (.int .i64 dd.last) := HKE.out.cell 1 rfl
          have d2 : w21.cell? ⟨be, 2, none⟩ = some (.int .i64 dd.prod) := HKE.out.cell 2 rfl
          have d3 : w21.cell? ⟨be, 3, none⟩ = some (.int .i64 dd.epoch) := HKE.out.cell 3 rfl
          have d4 : w21.cell? ⟨be, 4, none⟩ = some (.int .i64 dd.seq) := HKE.out.cell 4 rfl
          have d5 : w21.cell? ⟨be, 5, none⟩ = some (.slice A' nd c') := HKE.out.cell 5 rfl
          go_wp2_with fail
          refine HSD.out.mono ?_
          rintro e w22 ⟨rfl, hb22⟩
          have HB22 := Lib.hid (HB21.out.trans (hb22.mono HB21.out.size)); clear hb22 u0 u1 u2 u3 u4 u5 d0 d1 d2 d3 d4 d5
          go_wp2_with fail
          refine (HGO.out w22).mono ?_
          rintro e w23 ⟨rfl, hb23⟩
          have HB23 := Lib.hid (HB22.out.trans (hb23.mono HB22.out.size)); clear hb23
          go_wp2
          go_ret
          exact ⟨rfl, HB6.out.trans (HB23.out.mono HB6.out.size)⟩
    · have hd : (E != 0) = true := by simpa using hE0
      clear hE0
      go_wp2_with fail
      refine (HGO.out w3).mono ?_
      rintro e w4 ⟨rfl, hb4⟩
      have HL4 := Lib.hid (HB3.out.trans (hb4.mono HB3.out.size)); clear hb4
      go_wp2
      go_ret
      exact ⟨rfl, HL4.out⟩
end Go.Proofs.Ytndingohckcmdaa

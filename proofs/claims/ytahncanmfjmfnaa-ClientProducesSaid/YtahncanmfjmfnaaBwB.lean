/- The reference of chapter 5: encode. -/
import Derived.Test.YtahncanmfjmfnaaBtF
import Derived.Test.YtahncanmfjmfnaaRefB
import Derived.Test.YtahncanmfjmfnaaCrcR
import Derived.Test.YtahncanmfjmfnaaRefN
import Derived.Test.YtahncanmfjmfnaaPlanC
import Derived.Deep.CutRange
namespace Go.Proofs.Ytahncanmfjmfnaa
open Go.RowKit

/-- A row of bytes laid since w3, and what else was there is as it was. -/
def Acc (w3 : World) (v : Value) (L : List Nat) (w : World) : Prop := w.ownsRow w3.heap.size 5 1 v L.length (u8s L) ∧ Below w3.heap.size w3 w
theorem Acc.keep {w3 w w' : World} {v : Value} {L : List Nat} (h : Acc w3 v L w) (hb : Below w.heap.size w w') : Acc w3 v L w' := ⟨own_below h.1 hb, h.2.trans (hb.mono h.2.size)⟩
theorem Acc.start {w3 w1 w : World} {v : Value} {n : Nat} {L : List Nat} (h : w.ownsRow w1.heap.size 5 1 v n (u8s L)) (hb : Below w1.heap.size w1 w) (h1 : Below w3.heap.size w3 w1) : Acc w3 v L w := by
  have hn : L.length = n := by have := h.1; rw [u8s_len] at this; omega
  subst hn
  exact ⟨ownsRow_base h h1.size, h1.trans (hb.mono h1.size)⟩
theorem Acc.at' {w3 w : World} {v : Value} {L : List Nat} (h : Acc w3 v L w) : ∃ A c, v = .slice A L.length c ∧ L.length ≤ c ∧ At w A L.length (byteAt L) := by
  obtain ⟨A, c, h1, h2, -, h3⟩ := own_bytes h.1
  exact ⟨A, c, h1, h2, h3⟩
theorem wpList_acc {w3 w : World} {ops : Array Oper} {rest : List Oper} {o : Oper} {a : Act} {Q : Exit → Act → World → Prop} (hgd : o.guard = none) (s x : Operand)
    (ho : o.op = .call { callee := .builtin .append, args := #[s, x], argTypes := #[33, 33] })
    (v : Value) (L : List Nat) (hs : a.eval s = v) (hA : Acc w3 v L w) (X : Option Addr) (m c : Nat) (M : List Nat) (hx : a.eval x = .slice X m c) (hM : M.length = m) (hat : At w X m (byteAt M))
    (hlen : L.length + M.length ≤ 70368744177664)
    (h : ∀ v' w', Acc w3 v' (L ++ M) w' → wpList Try.prog ops Q rest (a.put o.dst v') w') : wpList Try.prog ops Q (o :: rest) a w := by
  subst hM
  obtain ⟨i0, hi, hz0, hz1, hz2⟩ := info_parts infoByte
  refine wpList_app2 w hgd s x 33 ho w3.heap.size 5 i0 _ 1 1 Try.underlying33 hi hz0 hz1 hz2 rfl (by decide) v L.length (u8s L) hs hA.1 X M.length c (byteAt M) hx (by rw [Nat.mul_one]; exact hat) (fun j _ => byteAt_one _ j) (by unfold maxLen; omega) (by omega) hA.2.size ?_
  intro v' w' hown hg _
  rw [byteAt_cells_n _ _ rfl, ← u8s_append] at hown
  refine h v' w' ⟨?_, ?_⟩
  · rw [List.length_append]
    exact hown
  · exact hA.2.grown hg hA.2.size (fun g hg => (hA.1.lt g hg).1)

set_option maxRecDepth 20000 in
theorem ref.bytes_any (A : Option Addr) (n c : Nat) (L : List Nat) (w : World) (hL : L.length = n) (hat : At w A n (byteAt L)) (hn : n ≤ 1099511627776) :
    Calls Try.prog 51 #[.slice A n c] w fun e w' => (∃ v, e = .returned v ∧ Acc w v (num.put n ++ L) w') := by
  have hpb := num.put_bd (n : Int)
  have HAT := Lib.hid hat; clear hat
  have HL := Lib.hid hL; clear hL
  go_enter Try.func51, Try.ntmps51
  go_wp2_with fail
  refine (num.refput_any n w (by omega) (by omega)).mono ?_
  rintro e w1 ⟨⟨v1, rfl, hown⟩, hb⟩
  have HA := Lib.hid (Acc.start hown hb (Below.refl _ w))
  have HAT1 := Lib.hid (HAT.out.below hb (Nat.le_refl _))
  clear hown hb
  go_wp2_with (at_builtin; go_loud (refine wpList_acc rfl (.tmp 5) (.tmp 6) rfl v1 _ rfl HA.out A n c L rfl HL.out HAT1.out (by rw [HL.out]; omega) ?_; intro v' w2 hA2; have HA2 := Lib.hid hA2; clear hA2))
  go_wp2
  go_ret
  exact ⟨_, rfl, HA2.out⟩

/-- What stands behind a record's length. -/
def Rec.rest (r : Rec) (first base : Int) : List Nat := num.put (r.time - first) ++ num.put (r.off - base) ++ bat.field r.hasKey r.key ++ bat.field r.hasVal r.val
theorem bat.field_len (has : Bool) (L : List Nat) (h : has = false → L = []) : ((bat.field has L).length : Int) = num.widI (bat.len has L.length) + L.length := by
  unfold bat.field bat.len num.widI
  cases has
  · rw [h rfl]
    simp [num.put_len]
  · simp [num.put_len]
theorem Rec.rest_len (r : Rec) (first base : Int) (hk : r.hasKey = false → r.key = []) (hv : r.hasVal = false → r.val = []) : ((r.rest first base).length : Int) = r.body first base := by
  have h1 := bat.field_len r.hasKey r.key hk
  have h2 := bat.field_len r.hasVal r.val hv
  have h3 : (num.put (r.time - first)).length = num.widI (r.time - first) := num.put_len _
  have h4 : (num.put (r.off - base)).length = num.widI (r.off - base) := num.put_len _
  unfold Rec.rest Rec.body
  simp only [List.length_append]
  omega
theorem Rec.rest_bytes (r : Rec) (first base : Int) (hk : r.hasKey = false → r.key = []) (hv : r.hasVal = false → r.val = []) : num.put ((r.rest first base).length : Int) ++ r.rest first base = r.bytes first base := by
  rw [Rec.rest_len r first base hk hv]
  unfold Rec.rest Rec.bytes
  simp only [List.append_assoc]

set_option maxRecDepth 20000 in
set_option maxHeartbeats 2000000 in
theorem ref.body_any (r : Rec) (first base : Int) (Ak : Option Addr) (ck : Nat) (Av : Option Addr) (cv : Nat) (w : World) (hok : r.ok) (hf : 0 ≤ first ∧ first ≤ 1125899906842624) (hb : 0 ≤ base ∧ base ≤ 4611686018427387904)
    (hk : At w Ak r.key.length (byteAt r.key)) (hv : At w Av r.val.length (byteAt r.val)) :
    Calls Try.prog 52 #[r.hval Ak ck Av cv, .int .i64 first, .int .i64 base] w fun e w' => (∃ v, e = .returned v ∧ Acc w v (r.rest first base) w') := by
  obtain ⟨f0, f1⟩ := hf
  obtain ⟨g0, g1⟩ := hb
  obtain ⟨t0, t1, o0, o1, k1, v1⟩ := hok
  have HK := Lib.hid hk; clear hk
  have HV := Lib.hid hv; clear hv
  have hrest : ∀ x y, x = bat.field r.hasKey r.key → y = bat.field r.hasVal r.val → num.put (r.time - first) ++ num.put (r.off - base) ++ x ++ y = r.rest first base := fun x y hx hy => by rw [hx, hy]; rfl
  have HREST := Lib.hid hrest; clear hrest
  have hp1 := num.put_bd (r.time - first)
  have hp2 := num.put_bd (r.off - base)
  unfold Rec.hval
  go_enter Try.func52, Try.ntmps52
  go_upto_region 1 with fail
  obtain ⟨w1, hw1⟩ : ∃ w1, w1 = w.alloc (.cells #[.int .i64 r.off, .int .i64 r.time, .bool r.hasKey, .slice Ak r.key.length ck, .bool r.hasVal, .slice Av r.val.length cv] 44) := ⟨_, rfl⟩
  rw [← hw1]
  have hbk : Blk w1 w.heap.size 44 #[.int .i64 r.off, .int .i64 r.time, .bool r.hasKey, .slice Ak r.key.length ck, .bool r.hasVal, .slice Av r.val.length cv] := by rw [hw1]; exact Blk.new _ _ _
  have hb1 : Below w.heap.size w w1 := by rw [hw1]; exact (Below.refl _ w).alloc (Nat.le_refl _) _
  clear hw1
  have q0 : ∀ x : Later w1 (fun _ => False), x.1.cell? ⟨w.heap.size, 0, none⟩ = some (.int .i64 r.off) := fun x => (x.2.blk hbk id).cell 0 rfl
  have q1 : ∀ x : Later w1 (fun _ => False), x.1.cell? ⟨w.heap.size, 1, none⟩ = some (.int .i64 r.time) := fun x => (x.2.blk hbk id).cell 1 rfl
  have HBK := Lib.hid hbk; clear hbk
  have HB1 := Lib.hid hb1; clear hb1
  have hS0 : later w1 (fun _ => False) w1.drew := later_of ((Chg.refl _ _).drew)
  refine wp_plan (S := fun w0 => ∃ x : Later w1 (fun _ => False), w0 = x.1) (by kernel_rfl) hS0 ?_
  intro hS K hK
  have HS := Lib.hid hS; clear hS hS0
  refine plan_group [true, true, true, true, false, true, true, true, true] [0, 1, 2, 3, 5, 6, 7, 8] 4 (by dsimp only [sel]) (by rfl) rfl (by kernel_rfl) (by kernel_rfl) HS.out ?_
  (repeat go_big_quiet_step (fail)); refine wpQuiet_nil ?_
  refine plan_one [false, false, false, false, true] 4 3 (by dsimp only [sel]) (by rfl) rfl (by kernel_rfl) ?_; intro K1 hK1; go_wp2_with fail
  refine (num.refput_any (r.time - first) _ (by omega) (by omega)).mono ?_
  rintro e w2 ⟨⟨v1, rfl, ho1⟩, hb2⟩
  have HA1 := Lib.hid (Acc.start ho1 hb2 (bdrew (Below.refl _ w1) 1)); clear ho1 hb2
  go_wp2_with fail
  refine ⟨later_of (chg_of HA1.out.2), ?_⟩
  refine plan_one [false, false, false, false, false, false, false, false, false, true] 9 2 (by dsimp only [sel]) (by rfl) rfl (by kernel_rfl) ?_; intro K1 hK1; go_wp2_with fail
  refine (num.refput_any (r.off - base) _ (by omega) (by omega)).mono ?_
  rintro e w3 ⟨⟨v2, rfl, ho2⟩, hb3⟩
  obtain ⟨A2, c2, rfl, -, -, hat2⟩ := own_bytes ho2
  have HA2 := Lib.hid (HA1.out.keep hb3)
  have HAT2 := Lib.hid hat2
  clear ho2 hat2 hb3 HA1
  go_wp2_with fail
  refine ⟨later_of (chg_of HA2.out.2), ?_⟩
  refine plan_one [false, false, false, false, false, false, false, false, false, false, true] 10 1 (by dsimp only [sel]) (by rfl) rfl (by kernel_rfl) ?_; intro K1 hK1; go_wp2_with (at_builtin; go_loud (refine wpList_acc rfl (.tmp 12) (.tmp 17) rfl v1 _ rfl HA2.out A2 _ c2 _ rfl rfl HAT2.out (by omega) ?_; intro v3 w4 hA3; have HA3 := Lib.hid hA3; clear hA3))
  go_simp
  refine ⟨later_of (chg_of HA3.out.2), ?_⟩
  clear HA2 HAT2
  refine plan_group [false, false, false, false, false, false, false, false, false, false, false, true] [11] 0 (by dsimp only [sel]) (by rfl) rfl (by kernel_rfl) (by kernel_rfl) (later_of (chg_of HA3.out.2)) ?_
  (repeat go_big_quiet_step (fail)); refine wpQuiet_nil ?_
  refine wp_plan_end (by kernel_rfl) ?_
  clear q0 q1 HS
  refine hK _ _ ?_
  have hbk4 := (chg_of (P := fun _ => False) HA3.out.2).blk HBK.out id
  have hkw := fun wx (h : Below w1.heap.size w1 wx) => HK.out.below (HB1.out.trans (h.mono HB1.out.size)) (Nat.le_refl _)
  have hvw := fun wx (h : Below w1.heap.size w1 wx) => HV.out.below (HB1.out.trans (h.mono HB1.out.size)) (Nat.le_refl _)
  have HKW := Lib.hid hkw; clear hkw
  have HVW := Lib.hid hvw; clear hvw
  obtain ⟨L3, hL3⟩ : ∃ L3, L3 = num.put (r.time - first) ++ num.put (r.off - base) := ⟨_, rfl⟩
  have hl3 : L3.length ≤ 20 := by rw [hL3, List.length_append]; omega
  rw [← hL3] at HA3
  have HL3 := Lib.hid hL3; clear hL3
  have c3 : w4.cell? ⟨w.heap.size, 3, none⟩ = some (.slice Ak r.key.length ck) := hbk4.cell 3 rfl
  cases hkk : r.hasKey
  · have c2 : w4.cell? ⟨w.heap.size, 2, none⟩ = some (.bool false) := hkk ▸ hbk4.cell 2 rfl
    have hfk : bat.field r.hasKey r.key = num.put (-1) := by rw [hkk]; rfl
    have HFK := Lib.hid hfk; clear hfk hkk hbk4
    have hp5 := bat.field_le r.hasKey r.key
    cases hvv : r.hasVal
    · have hfv : bat.field r.hasVal r.val = num.put (-1) := by rw [hvv]; rfl
      have hp6 := bat.field_le r.hasVal r.val
      have HFV := Lib.hid hfv; clear hfv
      have HVV := Lib.hid hvv; clear hvv
      go_wp2_with fail
      refine (num.refput_any (-1) w4 (by omega) (by omega)).mono ?_
      rintro e w5 ⟨⟨v5, rfl, ho5⟩, hb5⟩
      have ho5 := Acc.start ho5 hb5 (Below.refl _ w4)
      rw [← HFK.out] at ho5
      obtain ⟨A5, c5, rfl, -, hat5⟩ := ho5.at'
      have HA4 := Lib.hid (HA3.out.keep hb5); have HAT5 := Lib.hid hat5; clear ho5 hat5 hb5
      clear c2 c3
      go_wp2_with (at_builtin; go_loud (refine wpList_acc rfl (.tmp 26) (.tmp 27) rfl v3 L3 rfl HA4.out A5 _ c5 _ rfl rfl HAT5.out (by first | omega | (simp only [List.length_append]; omega)) ?_; intro v6 w6 hA6; have hbk6 := (chg_of (P := fun _ => False) hA6.2).blk HBK.out id; have d4 : w6.cell? ⟨w.heap.size, 4, none⟩ = some (.bool false) := HVV.out ▸ hbk6.cell 4 rfl; have d5 : w6.cell? ⟨w.heap.size, 5, none⟩ = some (.slice Av r.val.length cv) := hbk6.cell 5 rfl; have HA6 := Lib.hid hA6; clear hA6 hbk6))
      refine (num.refput_any (-1) w6 (by omega) (by omega)).mono ?_
      rintro e w7 ⟨⟨v7, rfl, ho7⟩, hb7⟩
      have ho7 := Acc.start ho7 hb7 (Below.refl _ w6)
      rw [← HFV.out] at ho7
      obtain ⟨A7, c7, rfl, -, hat7⟩ := ho7.at'
      have HA7 := Lib.hid (HA6.out.keep hb7); have HAT7 := Lib.hid hat7; clear ho7 hat7 hb7
      clear d4 d5
      go_wp2_with (at_builtin; go_loud (refine wpList_acc rfl (.tmp 36) (.tmp 37) rfl v6 _ rfl HA7.out A7 _ c7 _ rfl rfl HAT7.out (by first | omega | (simp only [List.length_append]; omega)) ?_; intro v8 w8 hA8; have HA8 := Lib.hid hA8; clear hA8))
      go_wp2
      go_ret
      refine ⟨_, rfl, ?_, HB1.out.trans (HA8.out.2.mono HB1.out.size)⟩
      have h8 := HA8.out.1
      rw [HL3.out, HREST.out _ _ rfl rfl] at h8
      exact ownsRow_base h8 HB1.out.size
    · have hfv : bat.field r.hasVal r.val = num.put r.val.length ++ r.val := by rw [hvv]; rfl
      have hp6 := bat.field_le r.hasVal r.val
      have HFV := Lib.hid hfv; clear hfv
      have HVV := Lib.hid hvv; clear hvv
      go_wp2_with fail
      refine (num.refput_any (-1) w4 (by omega) (by omega)).mono ?_
      rintro e w5 ⟨⟨v5, rfl, ho5⟩, hb5⟩
      have ho5 := Acc.start ho5 hb5 (Below.refl _ w4)
      rw [← HFK.out] at ho5
      obtain ⟨A5, c5, rfl, -, hat5⟩ := ho5.at'
      have HA4 := Lib.hid (HA3.out.keep hb5); have HAT5 := Lib.hid hat5; clear ho5 hat5 hb5
      clear c2 c3
      go_wp2_with (at_builtin; go_loud (refine wpList_acc rfl (.tmp 26) (.tmp 27) rfl v3 L3 rfl HA4.out A5 _ c5 _ rfl rfl HAT5.out (by first | omega | (simp only [List.length_append]; omega)) ?_; intro v6 w6 hA6; have hbk6 := (chg_of (P := fun _ => False) hA6.2).blk HBK.out id; have d4 : w6.cell? ⟨w.heap.size, 4, none⟩ = some (.bool true) := HVV.out ▸ hbk6.cell 4 rfl; have d5 : w6.cell? ⟨w.heap.size, 5, none⟩ = some (.slice Av r.val.length cv) := hbk6.cell 5 rfl; have HA6 := Lib.hid hA6; clear hA6 hbk6))
      refine (ref.bytes_any Av r.val.length cv r.val w6 rfl (HVW.out w6 HA6.out.2) (by omega)).mono ?_
      rintro e w7 ⟨v7, rfl, ho7⟩
      rw [← HFV.out] at ho7
      obtain ⟨A7, c7, rfl, -, hat7⟩ := ho7.at'
      have HA7 := Lib.hid (HA6.out.keep ho7.2); have HAT7 := Lib.hid hat7; clear ho7 hat7
      clear d4 d5
      go_wp2_with (at_builtin; go_loud (refine wpList_acc rfl (.tmp 31) (.tmp 34) rfl v6 _ rfl HA7.out A7 _ c7 _ rfl rfl HAT7.out (by first | omega | (simp only [List.length_append]; omega)) ?_; intro v8 w8 hA8; have HA8 := Lib.hid hA8; clear hA8))
      go_wp2
      go_ret
      refine ⟨_, rfl, ?_, HB1.out.trans (HA8.out.2.mono HB1.out.size)⟩
      have h8 := HA8.out.1
      rw [HL3.out, HREST.out _ _ rfl rfl] at h8
      exact ownsRow_base h8 HB1.out.size
  · have c2 : w4.cell? ⟨w.heap.size, 2, none⟩ = some (.bool true) := hkk ▸ hbk4.cell 2 rfl
    have hfk : bat.field r.hasKey r.key = num.put r.key.length ++ r.key := by rw [hkk]; rfl
    have HFK := Lib.hid hfk; clear hfk hkk hbk4
    have hp5 := bat.field_le r.hasKey r.key
    cases hvv : r.hasVal
    · have hfv : bat.field r.hasVal r.val = num.put (-1) := by rw [hvv]; rfl
      have hp6 := bat.field_le r.hasVal r.val
      have HFV := Lib.hid hfv; clear hfv
      have HVV := Lib.hid hvv; clear hvv
      go_wp2_with fail
      refine (ref.bytes_any Ak r.key.length ck r.key w4 rfl (HKW.out w4 HA3.out.2) (by omega)).mono ?_
      rintro e w5 ⟨v5, rfl, ho5⟩
      rw [← HFK.out] at ho5
      obtain ⟨A5, c5, rfl, -, hat5⟩ := ho5.at'
      have HA4 := Lib.hid (HA3.out.keep ho5.2); have HAT5 := Lib.hid hat5; clear ho5 hat5
      clear c2 c3
      go_wp2_with (at_builtin; go_loud (refine wpList_acc rfl (.tmp 21) (.tmp 24) rfl v3 L3 rfl HA4.out A5 _ c5 _ rfl rfl HAT5.out (by first | omega | (simp only [List.length_append]; omega)) ?_; intro v6 w6 hA6; have hbk6 := (chg_of (P := fun _ => False) hA6.2).blk HBK.out id; have d4 : w6.cell? ⟨w.heap.size, 4, none⟩ = some (.bool false) := HVV.out ▸ hbk6.cell 4 rfl; have d5 : w6.cell? ⟨w.heap.size, 5, none⟩ = some (.slice Av r.val.length cv) := hbk6.cell 5 rfl; have HA6 := Lib.hid hA6; clear hA6 hbk6))
      refine (num.refput_any (-1) w6 (by omega) (by omega)).mono ?_
      rintro e w7 ⟨⟨v7, rfl, ho7⟩, hb7⟩
      have ho7 := Acc.start ho7 hb7 (Below.refl _ w6)
      rw [← HFV.out] at ho7
      obtain ⟨A7, c7, rfl, -, hat7⟩ := ho7.at'
      have HA7 := Lib.hid (HA6.out.keep hb7); have HAT7 := Lib.hid hat7; clear ho7 hat7 hb7
      clear d4 d5
      go_wp2_with (at_builtin; go_loud (refine wpList_acc rfl (.tmp 36) (.tmp 37) rfl v6 _ rfl HA7.out A7 _ c7 _ rfl rfl HAT7.out (by first | omega | (simp only [List.length_append]; omega)) ?_; intro v8 w8 hA8; have HA8 := Lib.hid hA8; clear hA8))
      go_wp2
      go_ret
      refine ⟨_, rfl, ?_, HB1.out.trans (HA8.out.2.mono HB1.out.size)⟩
      have h8 := HA8.out.1
      rw [HL3.out, HREST.out _ _ rfl rfl] at h8
      exact ownsRow_base h8 HB1.out.size
    · have hfv : bat.field r.hasVal r.val = num.put r.val.length ++ r.val := by rw [hvv]; rfl
      have hp6 := bat.field_le r.hasVal r.val
      have HFV := Lib.hid hfv; clear hfv
      have HVV := Lib.hid hvv; clear hvv
      go_wp2_with fail
      refine (ref.bytes_any Ak r.key.length ck r.key w4 rfl (HKW.out w4 HA3.out.2) (by omega)).mono ?_
      rintro e w5 ⟨v5, rfl, ho5⟩
      rw [← HFK.out] at ho5
      obtain ⟨A5, c5, rfl, -, hat5⟩ := ho5.at'
      have HA4 := Lib.hid (HA3.out.keep ho5.2); have HAT5 := Lib.hid hat5; clear ho5 hat5
      clear c2 c3
      go_wp2_with (at_builtin; go_loud (refine wpList_acc rfl (.tmp 21) (.tmp 24) rfl v3 L3 rfl HA4.out A5 _ c5 _ rfl rfl HAT5.out (by first | omega | (simp only [List.length_append]; omega)) ?_; intro v6 w6 hA6; have hbk6 := (chg_of (P := fun _ => False) hA6.2).blk HBK.out id; have d4 : w6.cell? ⟨w.heap.size, 4, none⟩ = some (.bool true) := HVV.out ▸ hbk6.cell 4 rfl; have d5 : w6.cell? ⟨w.heap.size, 5, none⟩ = some (.slice Av r.val.length cv) := hbk6.cell 5 rfl; have HA6 := Lib.hid hA6; clear hA6 hbk6))
      refine (ref.bytes_any Av r.val.length cv r.val w6 rfl (HVW.out w6 HA6.out.2) (by omega)).mono ?_
      rintro e w7 ⟨v7, rfl, ho7⟩
      rw [← HFV.out] at ho7
      obtain ⟨A7, c7, rfl, -, hat7⟩ := ho7.at'
      have HA7 := Lib.hid (HA6.out.keep ho7.2); have HAT7 := Lib.hid hat7; clear ho7 hat7
      clear d4 d5
      go_wp2_with (at_builtin; go_loud (refine wpList_acc rfl (.tmp 31) (.tmp 34) rfl v6 _ rfl HA7.out A7 _ c7 _ rfl rfl HAT7.out (by first | omega | (simp only [List.length_append]; omega)) ?_; intro v8 w8 hA8; have HA8 := Lib.hid hA8; clear hA8))
      go_wp2
      go_ret
      refine ⟨_, rfl, ?_, HB1.out.trans (HA8.out.2.mono HB1.out.size)⟩
      have h8 := HA8.out.1
      rw [HL3.out, HREST.out _ _ rfl rfl] at h8
      exact ownsRow_base h8 HB1.out.size

theorem ref.fixed_int (n : Int) (size : Nat) (w : World) (h0 : 0 ≤ n) (hs1 : 1 ≤ size) (hs8 : size ≤ 8) (hn : n ≤ 9223372036854775807) :
    Calls Try.prog 50 #[.int .i64 n, .int .i64 size] w fun e w' => ∃ A c, e = .returned (.slice A size c) ∧ Acc w (.slice A size c) (wire.be n.toNat size) w' ∧ At w' A size (byteAt (wire.be n.toNat size)) := by
  obtain ⟨k, rfl⟩ : ∃ k : Nat, n = (k : Int) := ⟨n.toNat, by omega⟩
  refine (wire.reffixed_any k size w hs1 hs8 hn).mono ?_
  rintro e w' ⟨⟨v, rfl, ho⟩, hb⟩
  rw [Int.toNat_natCast]
  obtain ⟨A, c, rfl, -, -, hat⟩ := own_bytes ho
  exact ⟨A, c, rfl, Acc.start ho hb (Below.refl _ _), hat⟩
theorem Acc.up {w3 w1 w : World} {v : Value} {L : List Nat} (h : Acc w1 v L w) (h1 : Below w3.heap.size w3 w1) : Acc w3 v L w := ⟨ownsRow_base h.1 h1.size, h1.trans (h.2.mono h1.size)⟩

/-- The records' flags agree with their bytes. -/
def Bat.flags (b : Bat) : Prop := ∀ r ∈ b.recs, (r.hasKey = false → r.key = []) ∧ (r.hasVal = false → r.val = [])

set_option maxRecDepth 20000 in
set_option maxHeartbeats 4000000 in
theorem ref.encode_any (b : Bat) (A : Option Addr) (c : Nat) (w : World) (hv : RecsV w (.slice A b.recs.length c) b.recs) (hmay : b.may) (h100 : b.recs.length ≤ 100) (hok : ∀ r ∈ b.recs, r.ok) (hfl : b.flags) :
    Calls Try.prog 30 #[b.hval A b.recs.length c] w fun e w' => ∃ v, e = .returned v ∧ Acc w v b.bytes w' := by
  obtain ⟨m0, m1, m2, m3, m4, m5, m6, m7, m8, m9, -⟩ := id hmay
  have hfirst : 0 ≤ Bat.first b.recs ∧ Bat.first b.recs ≤ 1125899906842624 := by
    cases hr : b.recs with
    | nil => exact ⟨Int.le_refl 0, by show (0 : Int) ≤ 1125899906842624; omega⟩
    | cons r rs =>
      have := hok r (by rw [hr]; exact List.mem_cons_self ..)
      exact ⟨this.1, this.2.1⟩
  obtain ⟨F, hF⟩ : ∃ F, F = Bat.first b.recs := ⟨_, rfl⟩
  rw [← hF] at hfirst
  have HF := Lib.hid hF; clear hF
  have HSB := Lib.hid (Bat.summed_byte hmay hok hv.byte)
  have HOK := Lib.hid hok
  have HFL := Lib.hid hfl; clear hfl
  have HBL := Lib.hid (fun k => b.body_le hok h100 k); clear hok hmay
  have HV := Lib.hid hv; clear hv
  unfold Bat.hval at *
  go_enter Try.func30, Try.ntmps30
  go_upto_region 2 with fail
  obtain ⟨w1, hw1⟩ : ∃ w1, w1 = w.alloc (.cells #[.int .i64 b.base, .int .i64 b.last, .int .i64 b.prod, .int .i64 b.epoch, .int .i64 b.seq, .slice A b.recs.length c] 42) := ⟨_, rfl⟩
  rw [← hw1]
  have hbk : Blk w1 w.heap.size 42 #[.int .i64 b.base, .int .i64 b.last, .int .i64 b.prod, .int .i64 b.epoch, .int .i64 b.seq, .slice A b.recs.length c] := by rw [hw1]; exact Blk.new _ _ _
  have hb1 : Below w.heap.size w w1 := by rw [hw1]; exact (Below.refl _ w).alloc (Nat.le_refl _) _
  clear hw1
  have hlt1 : w.heap.size < w1.heap.size := hbk.lt
  have q0 : ∀ x : Later w1 (fun _ => False), x.1.cell? ⟨w.heap.size, 0, none⟩ = some (.int .i64 b.base) := fun x => (x.2.blk hbk id).cell 0 rfl
  have p0 : w1.cell? ⟨w.heap.size, 0, none⟩ = some (.int .i64 b.base) := hbk.cell 0 rfl
  have q1 : ∀ x : Later w1 (fun _ => False), x.1.cell? ⟨w.heap.size, 1, none⟩ = some (.int .i64 b.last) := fun x => (x.2.blk hbk id).cell 1 rfl
  have p1 : w1.cell? ⟨w.heap.size, 1, none⟩ = some (.int .i64 b.last) := hbk.cell 1 rfl
  have q2 : ∀ x : Later w1 (fun _ => False), x.1.cell? ⟨w.heap.size, 2, none⟩ = some (.int .i64 b.prod) := fun x => (x.2.blk hbk id).cell 2 rfl
  have p2 : w1.cell? ⟨w.heap.size, 2, none⟩ = some (.int .i64 b.prod) := hbk.cell 2 rfl
  have q3 : ∀ x : Later w1 (fun _ => False), x.1.cell? ⟨w.heap.size, 3, none⟩ = some (.int .i64 b.epoch) := fun x => (x.2.blk hbk id).cell 3 rfl
  have p3 : w1.cell? ⟨w.heap.size, 3, none⟩ = some (.int .i64 b.epoch) := hbk.cell 3 rfl
  have q4 : ∀ x : Later w1 (fun _ => False), x.1.cell? ⟨w.heap.size, 4, none⟩ = some (.int .i64 b.seq) := fun x => (x.2.blk hbk id).cell 4 rfl
  have p4 : w1.cell? ⟨w.heap.size, 4, none⟩ = some (.int .i64 b.seq) := hbk.cell 4 rfl
  have q5 : ∀ x : Later w1 (fun _ => False), x.1.cell? ⟨w.heap.size, 5, none⟩ = some (.slice A b.recs.length c) := fun x => (x.2.blk hbk id).cell 5 rfl
  have p5 : w1.cell? ⟨w.heap.size, 5, none⟩ = some (.slice A b.recs.length c) := hbk.cell 5 rfl
  have HBK := Lib.hid hbk; clear hbk
  have HB1 := Lib.hid hb1; clear hb1
  go_upto_if 10 with fail
  go_cut [3] from 11 to 15 (fun s3 wx => s3 = .int .i64 F ∧ wx = w1)
  case first =>
    by_cases h0 : 0 < b.recs.length
    · obtain ⟨x, hx⟩ : ∃ x, b.recs[0]? = some x := ⟨_, List.getElem?_eq_getElem h0⟩
      obtain ⟨p, off, c', kv, vv, hA, -, -, hp, d0, d1, d2, d3, d4, d5, hk, hvv, -, -⟩ := (HV.out.below HB1.out (Nat.le_refl _)).at' hx
      obtain ⟨rfl, rfl⟩ : A = some ⟨p, off, none⟩ ∧ c = c' := by simpa using hA
      have hxF : x.time = F := by
        rw [HF.out]
        cases hr : b.recs with
        | nil => rw [hr] at hx; cases hx
        | cons r rs => rw [hr] at hx; obtain rfl : r = x := by simpa using hx
                       rfl
      rw [hxF] at d1
      have d1' : w1.cell? ⟨p, off + 1, none⟩ = some (.int .i64 F) := by simpa using d1
      clear hA hx hxF d0 d2 d3 d4 d5 hk hvv d1
      go_wp2_with fail
      go_meet
      case rel => exact ⟨rfl, rfl⟩
    · have h0' : b.recs.length = 0 := by omega
      have hF0 : F = 0 := by
        rw [HF.out]
        cases hr : b.recs with
        | nil => rfl
        | cons r rs => rw [hr] at h0'; simp at h0'
      have HF0 := Lib.hid hF0; clear hF0 h0'
      go_wp2_with fail
      go_meet
      case rel => exact ⟨by rw [HF0.out], rfl⟩
  case rest =>
    obtain ⟨rfl, rfl⟩ := hcut
    go_wp2_with fail
    refine (ref.fixed_int (b.last - b.base) 8 wc (by omega) (by omega) (by omega) (by omega)).mono ?_
    rintro e w2 ⟨A1, c1, rfl, ha1, hat1⟩
    have HA1 := Lib.hid ha1; clear ha1 hat1
    go_wp2_with fail
    refine (ref.fixed_int F 8 w2 (by omega) (by omega) (by omega) (by omega)).mono ?_
    rintro e w3 ⟨A2, c2, rfl, ha2, hat2⟩
    have HA2 := Lib.hid (HA1.out.keep ha2.2); clear ha2
    have HAT2 := Lib.hid hat2; clear hat2 HA1 p0 p1 p2 p3 p4 p5
    go_upto_region 5 with (at_builtin; go_loud (refine wpList_acc rfl (.tmp 21) (.tmp 23) rfl _ _ rfl HA2.out A2 8 c2 _ rfl (wire.be_len _ _) HAT2.out (by simp [wire.be_len]) ?_; intro v3 w4 hA3; have HA3 := Lib.hid hA3; clear hA3))
    clear HA2 HAT2
    have hS0 : later wc (fun _ => False) w4.drew := later_of ((chg_of HA3.out.2).drew)
    refine wp_plan (S := fun w0 => ∃ x : Later wc (fun _ => False), w0 = x.1) (by kernel_rfl) hS0 ?_
    intro hS K hK
    have HS := Lib.hid hS; clear hS hS0
    have HA4 := Lib.hid (HA3.out.keep (bdrew (Below.refl _ w4) 1)); clear HA3
    refine plan_group [true, true, true, false, false, true, true, false, false, true, true, false, false, true, true, true] [0, 1, 2, 5, 6, 9, 10, 13, 14, 15] 9 (by dsimp only [sel]) (by rfl) rfl (by kernel_rfl) (by kernel_rfl) HS.out ?_
    (repeat go_big_quiet_step (fail)); refine wpQuiet_nil ?_
    refine plan_one [false, false, false, true] 3 8 (by dsimp only [sel]) (by rfl) rfl (by kernel_rfl) ?_; intro K1 hK1; go_wp2_with fail
    refine (ref.fixed_int b.prod 8 _ (by omega) (by omega) (by omega) (by omega)).mono ?_
    rintro e x5 ⟨B5, k5, rfl, ha, hat⟩
    have HC5 := Lib.hid (HA4.out.keep ha.2); have HT5 := Lib.hid hat; clear ha hat HA4
    go_wp2_with fail
    refine ⟨later_of (chg_of HC5.out.2), ?_⟩
    refine plan_one [false, false, false, false, true] 4 7 (by dsimp only [sel]) (by rfl) rfl (by kernel_rfl) ?_; intro K1 hK1; go_wp2_with (at_builtin; go_loud (refine wpList_acc rfl (.tmp 25) (.tmp 28) rfl v3 _ rfl HC5.out B5 8 k5 _ rfl (wire.be_len _ _) HT5.out (by simp [wire.be_len]) ?_; intro u5 y5 hA; have HD5 := Lib.hid hA; clear hA))
    go_simp
    refine ⟨later_of (chg_of HD5.out.2), ?_⟩
    clear HC5 HT5
    refine plan_one [false, false, false, false, false, false, false, true] 7 6 (by dsimp only [sel]) (by rfl) rfl (by kernel_rfl) ?_; intro K1 hK1; go_wp2_with fail
    refine (ref.fixed_int b.epoch 2 _ (by omega) (by omega) (by omega) (by omega)).mono ?_
    rintro e x6 ⟨B6, k6, rfl, ha, hat⟩
    have HC6 := Lib.hid (HD5.out.keep ha.2); have HT6 := Lib.hid hat; clear ha hat HD5
    go_wp2_with fail
    refine ⟨later_of (chg_of HC6.out.2), ?_⟩
    refine plan_one [false, false, false, false, false, false, false, false, true] 8 5 (by dsimp only [sel]) (by rfl) rfl (by kernel_rfl) ?_; intro K1 hK1; go_wp2_with (at_builtin; go_loud (refine wpList_acc rfl (.tmp 29) (.tmp 32) rfl u5 _ rfl HC6.out B6 2 k6 _ rfl (wire.be_len _ _) HT6.out (by simp [wire.be_len]) ?_; intro u6 y6 hA; have HD6 := Lib.hid hA; clear hA))
    go_simp
    refine ⟨later_of (chg_of HD6.out.2), ?_⟩
    clear HC6 HT6
    refine plan_one [false, false, false, false, false, false, false, false, false, false, false, true] 11 4 (by dsimp only [sel]) (by rfl) rfl (by kernel_rfl) ?_; intro K1 hK1; go_wp2_with fail
    refine (ref.fixed_int b.seq 4 _ (by omega) (by omega) (by omega) (by omega)).mono ?_
    rintro e x7 ⟨B7, k7, rfl, ha, hat⟩
    have HC7 := Lib.hid (HD6.out.keep ha.2); have HT7 := Lib.hid hat; clear ha hat HD6
    go_wp2_with fail
    refine ⟨later_of (chg_of HC7.out.2), ?_⟩
    refine plan_one [false, false, false, false, false, false, false, false, false, false, false, false, true] 12 3 (by dsimp only [sel]) (by rfl) rfl (by kernel_rfl) ?_; intro K1 hK1; go_wp2_with (at_builtin; go_loud (refine wpList_acc rfl (.tmp 33) (.tmp 36) rfl u6 _ rfl HC7.out B7 4 k7 _ rfl (wire.be_len _ _) HT7.out (by simp [wire.be_len]) ?_; intro u7 y7 hA; have HD7 := Lib.hid hA; clear hA))
    go_simp
    refine ⟨later_of (chg_of HD7.out.2), ?_⟩
    clear HC7 HT7
    refine plan_one [false, false, false, false, false, false, false, false, false, false, false, false, false, false, false, false, true] 16 2 (by dsimp only [sel]) (by rfl) rfl (by kernel_rfl) ?_; intro K1 hK1; go_wp2_with fail
    refine (ref.fixed_int (b.recs.length : Int) 4 _ (by omega) (by omega) (by omega) (by omega)).mono ?_
    rintro e x8 ⟨B8, k8, rfl, ha, hat⟩
    have HC8 := Lib.hid (HD7.out.keep ha.2); have HT8 := Lib.hid hat; clear ha hat HD7
    go_wp2_with fail
    refine ⟨later_of (chg_of HC8.out.2), ?_⟩
    refine plan_one [false, false, false, false, false, false, false, false, false, false, false, false, false, false, false, false, false, true] 17 1 (by dsimp only [sel]) (by rfl) rfl (by kernel_rfl) ?_; intro K1 hK1; go_wp2_with (at_builtin; go_loud (refine wpList_acc rfl (.tmp 37) (.tmp 41) rfl u7 _ rfl HC8.out B8 4 k8 _ rfl (wire.be_len _ _) HT8.out (by simp [wire.be_len]) ?_; intro u8 y8 hA; have HD8 := Lib.hid hA; clear hA))
    go_simp
    refine ⟨later_of (chg_of HD8.out.2), ?_⟩
    clear HC8 HT8
    refine plan_group [false, false, false, false, false, false, false, false, false, false, false, false, false, false, false, false, false, false, true] [18] 0 (by dsimp only [sel]) (by rfl) rfl (by kernel_rfl) (by kernel_rfl) (later_of (chg_of HD8.out.2)) ?_
    (repeat go_big_quiet_step (fail)); refine wpQuiet_nil ?_
    refine wp_plan_end (by kernel_rfl) ?_
    clear HS
    refine hK _ _ ?_
    have hhd : Acc wc u8 (b.body 0) y8 := by
      have h := HD8.out
      rw [Int.toNat_natCast] at h
      unfold Bat.body Bat.head
      rw [← HF.out, List.take_zero, List.map_nil, List.flatten_nil, List.append_nil]
      exact h
    have HHD := Lib.hid hhd; clear hhd HD8
    go_wp2_with fail
    go_loopw [4, 5] (fun v i wr => ∃ j : Nat, j ≤ b.recs.length ∧ i = .int .i64 (j : Int) ∧ Acc wc v (b.body j) wr) (fun _ i _ => b.recs.length - (intOf i).toNat)
    case atStart => exact ⟨0, by omega, rfl, HHD.out⟩
    case round =>
      obtain ⟨j, hj, rfl, hacc⟩ := hrel
      have HACC := Lib.hid hacc; clear hacc
      have hbw : Below w.heap.size w wr := HB1.out.trans (HACC.out.2.mono HB1.out.size)
      have HBW := Lib.hid hbw; clear hbw
      have q5r : wr.cell? ⟨w.heap.size, 5, none⟩ = some (.slice A b.recs.length c) := ((chg_of (P := fun _ => False) HACC.out.2).blk HBK.out id).cell 5 rfl
      by_cases hlt : j < b.recs.length
      · obtain ⟨x, hx⟩ : ∃ x, b.recs[j]? = some x := ⟨_, List.getElem?_eq_getElem hlt⟩
        obtain ⟨p, off, c', kv, vv, hA, -, -, hp, d0, d1, d2, d3, d4, d5, hk, hvv, -, -⟩ := (HV.out.below HB1.out (Nat.le_refl _)).at' hx
        obtain ⟨rfl, rfl⟩ : A = some ⟨p, off, none⟩ ∧ c = c' := by simpa using hA
        obtain ⟨Ak, ck, rfl, hak, -, -, -⟩ := hk
        obtain ⟨Av, cv, rfl, hav, -, -, -⟩ := hvv
        have hxo := HOK.out x (List.mem_of_getElem? hx)
        have hxf := HFL.out x (List.mem_of_getElem? hx)
        have hbsucc := b.body_succ j x hx
        rw [← HF.out, ← Rec.rest_bytes x F b.base hxf.1 hxf.2] at hbsucc
        have HBS := Lib.hid hbsucc; clear hbsucc
        have hbl := HBL.out j
        have hrl : (x.rest F b.base).length ≤ 2240 := by
          have h1 := Rec.rest_len x F b.base hxf.1 hxf.2
          have h2 := Rec.body_le hxo F b.base
          omega
        have hcall : ∀ wx, Below wc.heap.size wc wx → Calls Try.prog 52 #[x.hval Ak ck Av cv, .int .i64 F, .int .i64 b.base] wx fun e w' => (∃ v, e = .returned v ∧ Acc wx v (x.rest F b.base) w') := fun wx h => ref.body_any x F b.base Ak ck Av cv wx hxo hfirst ⟨m0, m1⟩ (hak.below h (Nat.le_refl _)) (hav.below h (Nat.le_refl _))
        unfold Rec.hval at hcall
        have HCALL := Lib.hid hcall; clear hcall hxo hxf hak hav
        have r0 : ∀ y : Later wc (fun _ => False), y.1.cell? ⟨p, off + j * 6, none⟩ = some (.int .i64 x.off) := fun y => ((y.2.below (Nat.le_refl _) (fun _ q => q.elim)).cell hp).trans d0
        have r1 : ∀ y : Later wc (fun _ => False), y.1.cell? ⟨p, off + j * 6 + 1, none⟩ = some (.int .i64 x.time) := fun y => ((y.2.below (Nat.le_refl _) (fun _ q => q.elim)).cell hp).trans d1
        have r2 : ∀ y : Later wc (fun _ => False), y.1.cell? ⟨p, off + j * 6 + 2, none⟩ = some (.bool x.hasKey) := fun y => ((y.2.below (Nat.le_refl _) (fun _ q => q.elim)).cell hp).trans d2
        have r3 : ∀ y : Later wc (fun _ => False), y.1.cell? ⟨p, off + j * 6 + 3, none⟩ = some (.slice Ak x.key.length ck) := fun y => ((y.2.below (Nat.le_refl _) (fun _ q => q.elim)).cell hp).trans d3
        have r4 : ∀ y : Later wc (fun _ => False), y.1.cell? ⟨p, off + j * 6 + 4, none⟩ = some (.bool x.hasVal) := fun y => ((y.2.below (Nat.le_refl _) (fun _ q => q.elim)).cell hp).trans d4
        have r5 : ∀ y : Later wc (fun _ => False), y.1.cell? ⟨p, off + j * 6 + 5, none⟩ = some (.slice Av x.val.length cv) := fun y => ((y.2.below (Nat.le_refl _) (fun _ q => q.elim)).cell hp).trans d5
        have s0 : ∀ y : Later wc (fun _ => False), y.1.cell? ⟨w.heap.size, 0, none⟩ = some (.int .i64 b.base) := fun y => (y.2.blk HBK.out id).cell 0 rfl
        have s5 : ∀ y : Later wc (fun _ => False), y.1.cell? ⟨w.heap.size, 5, none⟩ = some (.slice (some ⟨p, off, none⟩) b.recs.length c) := fun y => (y.2.blk HBK.out id).cell 5 rfl
        clear d0 d1 d2 d3 d4 d5 hA hx q0 q1 q2 q3 q4 q5
        go_upto_region 9 with fail
        have hS0 : later wc (fun _ => False) wr.drew := later_of ((chg_of HACC.out.2).drew)
        refine wp_plan (S := fun w0 => ∃ x : Later wc (fun _ => False), w0 = x.1) (by kernel_rfl) hS0 ?_
        intro hS K5 hK5
        have HS := Lib.hid hS; clear hS hS0
        refine plan_group [true, true, true, true, true, true, true, true] [0, 1, 2, 3, 4, 5, 6, 7] 5 (by dsimp only [sel]) (by rfl) rfl (by kernel_rfl) (by kernel_rfl) HS.out ?_
        (repeat go_big_quiet_step (fail)); refine wpQuiet_nil ?_
        have s0' : wr.drew.cell? ⟨w.heap.size, 0, none⟩ = some (.int .i64 b.base) := s0 ⟨_, (chg_of HACC.out.2).drew⟩
        refine plan_one [false, false, false, false, false, false, false, false, true] 8 4 (by dsimp only [sel]) (by rfl) rfl (by kernel_rfl) ?_; intro K1 hK1; go_wp2_with fail
        refine ⟨HS.out, ?_⟩
        clear s0'
        refine plan_one [false, false, false, false, false, false, false, false, false, true] 9 3 (by dsimp only [sel]) (by rfl) rfl (by kernel_rfl) ?_; intro K1 hK1; go_wp2_with fail
        refine (HCALL.out _ (bdrew HACC.out.2 1)).mono ?_
        rintro e z1 ⟨v59, rfl, hz⟩
        obtain ⟨Az, cz, rfl, -, hatz⟩ := hz.at'
        have HE1 := Lib.hid ((HACC.out.keep (bdrew (Below.refl _ wr) 1)).keep hz.2)
        have HATZ := Lib.hid hatz; clear hz hatz
        go_wp2_with fail
        refine ⟨later_of (chg_of HE1.out.2), ?_⟩
        refine plan_one [false, false, false, false, false, false, false, false, false, false, true] 10 2 (by dsimp only [sel]) (by rfl) rfl (by kernel_rfl) ?_; intro K1 hK1; go_wp2_with fail
        refine (ref.bytes_any Az _ cz (x.rest F b.base) _ rfl HATZ.out (by omega)).mono ?_
        obtain ⟨M, hM⟩ : ∃ M, M = num.put ((x.rest F b.base).length : Int) ++ x.rest F b.base := ⟨_, rfl⟩
        have hml : M.length ≤ 2250 := by rw [hM, List.length_append]; have := num.put_bd ((x.rest F b.base).length : Int); omega
        have hbs := HBS.out
        rw [← hM] at hbs ⊢
        have HBSM := Lib.hid hbs; clear hbs hM
        rintro e z2 ⟨v60, rfl, hz⟩
        obtain ⟨Ay, cy, rfl, -, haty⟩ := hz.at'
        have HE2 := Lib.hid (HE1.out.keep hz.2)
        have HATY := Lib.hid haty; clear hz haty HE1
        go_wp2_with fail
        refine ⟨later_of (chg_of HE2.out.2), ?_⟩
        refine plan_one [false, false, false, false, false, false, false, false, false, false, false, true] 11 1 (by dsimp only [sel]) (by rfl) rfl (by kernel_rfl) ?_; intro K1 hK1; go_wp2_with (at_builtin; go_loud (refine wpList_acc rfl (.tmp 50) (.tmp 60) rfl _ _ rfl HE2.out Ay _ cy M rfl rfl HATY.out (by omega) ?_; intro v61 z3 hA; have HE3 := Lib.hid hA; clear hA))
        go_simp
        refine ⟨later_of (chg_of HE3.out.2), ?_⟩
        refine plan_group [false, false, false, false, false, false, false, false, false, false, false, false, true] [12] 0 (by dsimp only [sel]) (by rfl) rfl (by kernel_rfl) (by kernel_rfl) (later_of (chg_of HE3.out.2)) ?_
        (repeat go_big_quiet_step (fail)); refine wpQuiet_nil ?_
        refine wp_plan_end (by kernel_rfl) ?_
        clear HS r0 r1 r2 r3 r4 r5 s0 s5 HE2 HATY HATZ
        refine hK5 _ _ ?_
        go_wp2_with fail
        go_roundw
        case rel => exact ⟨j + 1, by omega, by go_num, by rw [HBSM.out]; exact HE3.out⟩
        case measure => simp [intOf]; omega
      · obtain rfl : j = b.recs.length := by omega
        obtain ⟨S, hS⟩ : ∃ S, S = b.summed := ⟨_, rfl⟩
        have hacc := HACC.out
        rw [show b.body b.recs.length = S from hS.symm] at hacc
        have hsl : S.length ≤ 225034 := by rw [hS]; exact HBL.out b.recs.length
        have hsb : ∀ x ∈ S, x < 256 := by rw [hS]; exact HSB.out
        have HS := Lib.hid hS; clear hS
        obtain ⟨Ap, cp, rfl, hcp, hatp⟩ := hacc.at'
        have HATP := Lib.hid hatp; clear hatp
        have HSBY := Lib.hid hsb; clear hsb
        have HACC2 := Lib.hid hacc; clear hacc HACC
        have q0r : wr.cell? ⟨w.heap.size, 0, none⟩ = some (.int .i64 b.base) := ((chg_of (P := fun _ => False) HACC2.out.2).blk HBK.out id).cell 0 rfl
        have hcp2 : cp ≤ maxLen := own_cap HACC2.out.1
        clear q0 q1 q2 q3 q4 q5
        go_wp2_with fail
        refine (ref.fixed_int b.base 8 wr (by omega) (by omega) (by omega) (by omega)).mono ?_
        rintro e w5 ⟨A5, c5, rfl, ha, -⟩
        have HF1 := Lib.hid ha; clear ha
        clear q0r q5r
        go_wp2_with fail
        refine (ref.fixed_int ((S.length : Int) + 4) 4 w5 (by omega) (by omega) (by omega) (by omega)).mono ?_
        rintro e w6 ⟨A6, c6, rfl, ha, hat⟩
        have HF2 := Lib.hid (HF1.out.keep ha.2); have HT6 := Lib.hid hat; clear ha hat HF1
        go_wp2_with (at_builtin; go_loud (refine wpList_acc rfl (.tmp 64) (.tmp 68) rfl _ _ rfl HF2.out A6 4 c6 _ rfl (wire.be_len _ _) HT6.out (by simp [wire.be_len]) ?_; intro v7 w7 hA; have HF3 := Lib.hid hA; clear hA))
        have hby : Bytes w7 (.slice Ap S.length cp) S := ⟨Ap, cp, rfl, by omega, HATP.out.below HF3.out.2 (Nat.le_refl _), HSBY.out⟩
        have HBY := Lib.hid hby; clear hby
        refine (crc.refsum_any (.slice Ap S.length cp) S w7 HBY.out).mono ?_
        rintro e wx ⟨rfl, rfl⟩
        obtain ⟨C, hC⟩ : ∃ C, C = crc.more 0 S := ⟨_, rfl⟩
        have hClt : C < 4294967296 := by rw [hC]; exact crc.more_lt _ _
        rw [← hC]
        have HC := Lib.hid hC; clear hC HF2 HT6
        go_wp2_with fail
        refine (ref.fixed_int (C : Int) 4 w7 (by omega) (by omega) (by omega) (by omega)).mono ?_
        rintro e w8 ⟨A8, c8, rfl, ha, hat⟩
        have HF4 := Lib.hid (HF3.out.keep ha.2); have HT8 := Lib.hid hat; clear ha hat HF3
        go_wp2_with (first
          | (at_builtin; refine wpList_acc rfl (.tmp 75) (.tmp 76) rfl _ _ rfl HF5.out Ap S.length cp S rfl rfl (HATP.out.below HF5.out.2 (Nat.le_refl _)) (by simp [wire.be_len]; omega) ?_; intro v10 w10 hA; have HF6 := Lib.hid hA; clear hA)
          | (at_builtin; refine wpList_acc rfl (.tmp 70) (.tmp 74) rfl _ _ rfl HF4.out A8 4 c8 _ rfl (wire.be_len _ _) HT8.out (by simp [wire.be_len]) ?_; intro v9 w9 hA; have HF5 := Lib.hid hA; clear hA))
        go_wp2
        go_ret
        refine ⟨_, rfl, ?_⟩
        have h := HF6.out
        have hlen : wire.be b.base.toNat 8 ++ wire.be ((S.length : Int) + 4).toNat 4 ++ wire.be ((C : Int)).toNat 4 ++ S = b.bytes := by
          unfold Bat.bytes Bat.front
          rw [HC.out, HS.out, Int.toNat_natCast, show ((b.summed.length : Int) + 4).toNat = 4 + b.summed.length by omega]
        rw [hlen] at h
        exact h.up (HB1.out.trans (HACC2.out.2.mono HB1.out.size))
end Go.Proofs.Ytahncanmfjmfnaa

/- proto: Answer, Read (PqX, PqY, PqZ, PaI, PaG, PaP, PaD, PaE; chapter 20). -/
import Derived.BigQuiet
import Derived.Test.YtimcpbbcealkiaaPqR
import Derived.Deep.CutRange
import Derived.Maps.AppendAt
import Derived.Test.YtimcpbbcealkiaaPqD
namespace Go.Proofs.Ytimcpbbcealkiaa
section
open Go.RowKit
set_option maxRecDepth 20000
/-- What Answer says of an answer. -/
def pa.check (r : PAns) : Int := if r.corr < 0 ∨ 2147483647 < r.corr ∨ r.code < 0 ∨ 65535 < r.code then 1 else if pq.long [r.member, r.leader] = true ∨ 1000 < r.names.length ∨ pq.long r.names = true ∨ 1000 < r.nums.length ∨ 131072 < r.data.length then 3 else 0
set_option maxHeartbeats 8000000 in
theorem pa.answer_bad (r : PAns) (An : Option Addr) (cn : Nat) (Am : Option Addr) (cm : Nat) (Ad : Option Addr) (cd : Nat) (w : World) (h : AnsV w An cn Am cm Ad cd r) (hck : pa.check r ≠ 0) :
    Calls Try.prog 18 #[.agg (r.cells An cn Am cm Ad cd)] w fun e w' => e = .returned (.tuple #[.slice none 0 0, .int .i64 (pa.check r)]) ∧ Below w.heap.size w w' := by
  obtain ⟨-, hnv, hmv, hdv⟩ := h
  obtain ⟨A1, c1, e1, hat, hac, hacm, -⟩ := hnv
  obtain ⟨rfl, rfl⟩ : An = A1 ∧ cn = c1 := by injection e1 with q1 q2 q3; exact ⟨q1, q3⟩
  have hdl : r.data.length ≤ maxLen := by obtain ⟨A2, c2, -, -, q1, q2, -⟩ := hdv; exact Nat.le_trans q1 q2
  have hml : r.nums.length ≤ maxLen := by obtain ⟨A2, c2, -, -, q1, q2, -⟩ := hmv; exact Nat.le_trans q1 q2
  clear e1 hdv hmv
  obtain ⟨K, hK⟩ : ∃ K, K = pa.check r := ⟨_, rfl⟩
  rw [← hK] at hck ⊢
  unfold pa.check at hK
  obtain ⟨nn, hnn⟩ : ∃ n, n = r.names.length := ⟨_, rfl⟩
  obtain ⟨nm, hnm⟩ : ∃ n, n = r.nums.length := ⟨_, rfl⟩
  obtain ⟨nd, hnd⟩ : ∃ n, n = r.data.length := ⟨_, rfl⟩
  obtain ⟨l4, hl4⟩ : ∃ b, b = pq.long [r.member, r.leader] := ⟨_, rfl⟩
  obtain ⟨ln, hln⟩ : ∃ b, b = pq.long r.names := ⟨_, rfl⟩
  unfold PAns.cells
  rw [← hnn, ← hnm, ← hnd]
  rw [← hnn, ← hnm, ← hnd, ← hl4, ← hln] at hK
  rw [← hnn] at hat hac
  rw [← hnd] at hdl
  rw [← hnm] at hml
  unfold maxLen at hacm hdl hml
  obtain ⟨bx, hbx⟩ : ∃ b, b = w.heap.size := ⟨_, rfl⟩
  obtain ⟨w1, hw1⟩ : ∃ w1, w1 = w.alloc (.cells #[.int .i64 r.corr, .int .i64 r.code, .int .i64 r.off, .int .i64 r.last, .int .i64 r.gen, .string r.member, .string r.leader, .slice An nn cn, .slice Am nm cm, .slice Ad nd cd] 41) := ⟨_, rfl⟩
  have hk1 : Blk w1 bx 41 #[.int .i64 r.corr, .int .i64 r.code, .int .i64 r.off, .int .i64 r.last, .int .i64 r.gen, .string r.member, .string r.leader, .slice An nn cn, .slice Am nm cm, .slice Ad nd cd] := by rw [hw1, hbx]; exact Blk.new _ _ _
  have hb1 : Below w.heap.size w w1 := by rw [hw1]; exact (Below.refl _ _).alloc (Nat.le_refl _) _
  have h4 := pq.long_any [r.member, r.leader] (some ⟨w1.heap.size, 0, none⟩) 2 (w1.alloc (.cells #[.string r.member, .string r.leader] 9)) (pq.at_two w1 _ _ _) (by unfold maxLen; simp)
  rw [← hl4] at h4
  have hn : ∀ wx, Below w.heap.size w wx → Calls Try.prog 26 #[.slice An nn cn] wx fun e w' => e = .returned (.bool ln) ∧ Below wx.heap.size wx w' := fun wx hb => by
    have := pq.long_any r.names An cn wx (by rw [← hnn]; exact hat.below hb (Nat.le_refl _)) (by rw [← hnn]; unfold maxLen; omega)
    rw [← hln, ← hnn] at this
    exact this
  have hb4 : ∀ w2, Below (w1.heap.size + 1) (w1.alloc (.cells #[.string r.member, .string r.leader] 9)) w2 → Below w.heap.size w w2 ∧ Blk w2 bx 41 #[.int .i64 r.corr, .int .i64 r.code, .int .i64 r.off, .int .i64 r.last, .int .i64 r.gen, .string r.member, .string r.leader, .slice An nn cn, .slice Am nm cm, .slice Ad nd cd] := fun w2 h => by
    have a1 : Below w1.heap.size w1 w2 := ((Below.refl w1.heap.size w1).alloc (Nat.le_refl _) _).trans (h.mono (by omega))
    exact ⟨hb1.trans (a1.mono hb1.size), (chg_of (P := fun _ => False) a1).blk hk1 fun q => q⟩
  have HA := Lib.hid (And.intro h4 (And.intro hn (And.intro hb4 (And.intro hb1 (And.intro hK hck))))); clear h4 hn hb4 hb1 hnn hnm hnd hl4 hln hat hK hck
  have y0 := hk1.cell 0 (v := .int .i64 r.corr) rfl
  have y1 := hk1.cell 1 (v := .int .i64 r.code) rfl
  have y2 := hk1.cell 2 (v := .int .i64 r.off) rfl
  have y3 := hk1.cell 3 (v := .int .i64 r.last) rfl
  have y4 := hk1.cell 4 (v := .int .i64 r.gen) rfl
  have y5 := hk1.cell 5 (v := .string r.member) rfl
  have y6 := hk1.cell 6 (v := .string r.leader) rfl
  have y7 := hk1.cell 7 (v := .slice An nn cn) rfl
  have y8 := hk1.cell 8 (v := .slice Am nm cm) rfl
  have y9 := hk1.cell 9 (v := .slice Ad nd cd) rfl
  have yl := hk1.lt
  have hk1' := Lib.hid hk1; clear hk1
  go_enter Try.func18, Try.ntmps18
  go_upto_region 1 with fail
  rw [← hw1, ← hbx]
  clear hw1 hbx
  by_cases k0 : r.corr < 0
  · have d0 : decide (r.corr < 0) = true := decide_eq_true k0
    have hR : K = 1 := by rw [HA.out.2.2.2.2.1, if_pos (.inl k0)]
    have HR := Lib.hid hR; clear hR
    go_wp2_with fail
    go_ret2
    exact ⟨by rw [HR.out]; rfl, HA.out.2.2.2.1⟩
  have d0 : decide (r.corr < 0) = false := decide_eq_false k0
  by_cases k1 : 2147483647 < r.corr
  · have d1 : decide (2147483647 < r.corr) = true := decide_eq_true k1
    have hR : K = 1 := by rw [HA.out.2.2.2.2.1, if_pos (.inr (.inl k1))]
    have HR := Lib.hid hR; clear hR
    go_wp2_with fail
    go_ret2
    exact ⟨by rw [HR.out]; rfl, HA.out.2.2.2.1⟩
  have d1 : decide (2147483647 < r.corr) = false := decide_eq_false k1
  by_cases k2 : r.code < 0
  · have d2 : decide (r.code < 0) = true := decide_eq_true k2
    have hR : K = 1 := by rw [HA.out.2.2.2.2.1, if_pos (.inr (.inr (.inl k2)))]
    have HR := Lib.hid hR; clear hR
    go_wp2_with fail
    go_ret2
    exact ⟨by rw [HR.out]; rfl, HA.out.2.2.2.1⟩
  have d2 : decide (r.code < 0) = false := decide_eq_false k2
  by_cases k3 : 65535 < r.code
  · have d3 : decide (65535 < r.code) = true := decide_eq_true k3
    have hR : K = 1 := by rw [HA.out.2.2.2.2.1, if_pos (.inr (.inr (.inr k3)))]
    have HR := Lib.hid hR; clear hR
    go_wp2_with fail
    go_ret2
    exact ⟨by rw [HR.out]; rfl, HA.out.2.2.2.1⟩
  have d3 : decide (65535 < r.code) = false := decide_eq_false k3
  have hR : K = if l4 = true ∨ 1000 < nn ∨ ln = true ∨ 1000 < nm ∨ 131072 < nd then 3 else 0 := by rw [HA.out.2.2.2.2.1, if_neg (by omega)]
  have HR := Lib.hid hR; clear hR
  cases l4 with
  | true =>
    have hR : K = 3 := by rw [HR.out, if_pos (.inl rfl)]
    have HR3 := Lib.hid hR; clear hR
    go_wp2_with (go_at_call 26; refine HA.out.1.mono ?_; rintro e w2 ⟨rfl, h1⟩; have H2 := Lib.hid (HA.out.2.2.1 w2 (by rw [World.size_alloc] at h1; exact h1)); clear h1)
    go_ret2
    exact ⟨by rw [HR3.out]; rfl, H2.out.1⟩
  | false =>
    go_upto_region 4 with (go_at_call 26; refine HA.out.1.mono ?_; rintro e w2 ⟨rfl, h1⟩; have H2 := Lib.hid (HA.out.2.2.1 w2 (by rw [World.size_alloc] at h1; exact h1)); clear h1)
    clear y0 y1 y2 y3 y4 y5 y6 y7 y8 y9 yl
    have y7 := H2.out.2.cell 7 (v := .slice An nn cn) rfl
    have y8 := H2.out.2.cell 8 (v := .slice Am nm cm) rfl
    have y9 := H2.out.2.cell 9 (v := .slice Ad nd cd) rfl
    have yl := H2.out.2.lt
    by_cases k4 : 1000 < nn
    · have d4 : decide (1000 < nn) = true := decide_eq_true k4
      have d4' : decide (1000 < (nn : Int)) = true := decide_eq_true (by omega)
      have hR : K = 3 := by rw [HR.out, if_pos (.inr (.inl k4))]
      have HR3 := Lib.hid hR; clear hR
      go_wp2_with fail
      go_ret2
      exact ⟨by rw [HR3.out]; rfl, H2.out.1⟩
    have d4 : decide (1000 < nn) = false := decide_eq_false k4
    have d4' : decide (1000 < (nn : Int)) = false := decide_eq_false (by omega)
    have HN := Lib.hid (HA.out.2.1 w2 H2.out.1)
    cases ln with
    | true =>
      have hR : K = 3 := by rw [HR.out, if_pos (.inr (.inr (.inl rfl)))]
      have HR3 := Lib.hid hR; clear hR
      go_wp2_with (go_at_call 26; refine HN.out.mono ?_; rintro e w3 ⟨rfl, h1⟩; have H3 := Lib.hid (H2.out.1.trans (h1.mono H2.out.1.size)); clear h1)
      go_ret2
      exact ⟨by rw [HR3.out]; rfl, H3.out⟩
    | false =>
      go_upto_region 6 with (go_at_call 26; refine HN.out.mono ?_; rintro e w3 ⟨rfl, h1⟩; have H3 := Lib.hid (And.intro (H2.out.1.trans (h1.mono H2.out.1.size)) ((chg_of (P := fun _ => False) h1).blk H2.out.2 fun q => q)); clear h1)
      clear y7 y8 y9 yl
      have y8 := H3.out.2.cell 8 (v := .slice Am nm cm) rfl
      have y9 := H3.out.2.cell 9 (v := .slice Ad nd cd) rfl
      have yl := H3.out.2.lt
      by_cases k5 : 1000 < nm
      · have d5 : decide (1000 < nm) = true := decide_eq_true k5
        have d5' : decide (1000 < (nm : Int)) = true := decide_eq_true (by omega)
        have hR : K = 3 := by rw [HR.out, if_pos (.inr (.inr (.inr (.inl k5))))]
        have HR3 := Lib.hid hR; clear hR
        go_wp2_with fail
        go_ret2
        exact ⟨by rw [HR3.out]; rfl, H3.out.1⟩
      have d5 : decide (1000 < nm) = false := decide_eq_false k5
      have d5' : decide (1000 < (nm : Int)) = false := decide_eq_false (by omega)
      by_cases k6 : 131072 < nd
      · have d6 : decide (131072 < nd) = true := decide_eq_true k6
        have d6' : decide (131072 < (nd : Int)) = true := decide_eq_true (by omega)
        have hR : K = 3 := by rw [HR.out, if_pos (.inr (.inr (.inr (.inr k6))))]
        have HR3 := Lib.hid hR; clear hR
        go_wp2_with fail
        go_ret2
        exact ⟨by rw [HR3.out]; rfl, H3.out.1⟩
      have d6 : decide (131072 < nd) = false := decide_eq_false k6
      have d6' : decide (131072 < (nd : Int)) = false := decide_eq_false (by omega)
      exact absurd (by rw [HR.out, if_neg]; rintro (h | h | h | h | h); exact absurd h (by decide); exact k4 h; exact absurd h (by decide); exact k5 h; exact k6 h) HA.out.2.2.2.2.2
end
section
open Go.RowKit
set_option maxRecDepth 20000
def pa.nums (l : List Int) : List Nat := (l.map num.put).flatten
theorem pa.nums_succ {l : List Int} {j : Nat} {s : Int} (h : l[j]? = some s) : pa.nums (l.take (j + 1)) = pa.nums (l.take j) ++ num.put s := by
  unfold pa.nums
  rw [List.take_add_one, h]
  simp
theorem pa.nums_len : ∀ (l : List Int), (pa.nums l).length ≤ l.length * 10
  | [] => by simp [pa.nums]
  | s :: l => by
    have h1 := pa.nums_len l
    have h2 := (num.put_bd s).2
    show (num.put s ++ pa.nums l).length ≤ _
    rw [List.length_append, List.length_cons]
    omega
/-- Its bytes. -/
def pa.bytes (r : PAns) : List Nat := [] ++ wire.be r.corr.toNat 4 ++ wire.be r.code.toNat 2 ++ num.put r.off ++ num.put r.last ++ num.put r.gen ++ pq.text r.member ++ pq.text r.leader ++ num.put r.names.length ++ pq.texts r.names ++ num.put r.nums.length ++ pa.nums r.nums ++ num.put r.data.length ++ r.data
theorem pa.check_ok {r : PAns} (h : pa.check r = 0) : (0 ≤ r.corr ∧ r.corr ≤ 2147483647) ∧ (0 ≤ r.code ∧ r.code ≤ 65535) ∧ pq.long [r.member, r.leader] = false ∧ r.names.length ≤ 1000 ∧ pq.long r.names = false ∧ r.nums.length ≤ 1000 ∧ r.data.length ≤ 131072 := by
  unfold pa.check at h
  split at h
  · cases h
  · split at h
    · cases h
    · rename_i h2 h3
      refine ⟨by omega, by omega, ?_, ?_, ?_, ?_, ?_⟩
      · exact Bool.eq_false_iff.2 fun e => h3 (.inl e)
      · exact Nat.le_of_not_lt fun e => h3 (.inr (.inl e))
      · exact Bool.eq_false_iff.2 fun e => h3 (.inr (.inr (.inl e)))
      · exact Nat.le_of_not_lt fun e => h3 (.inr (.inr (.inr (.inl e))))
      · exact Nat.le_of_not_lt fun e => h3 (.inr (.inr (.inr (.inr e))))
end
section
open Go.RowKit
set_option maxRecDepth 20000
set_option maxHeartbeats 8000000 in
theorem pa.answer_ok (r : PAns) (An : Option Addr) (cn : Nat) (Am : Option Addr) (cm : Nat) (Ad : Option Addr) (cd : Nat) (w : World) (h : AnsV w An cn Am cm Ad cd r) (hck : pa.check r = 0) :
    Calls Try.prog 18 #[.agg (r.cells An cn Am cm Ad cd)] w fun e w' => (∃ v, e = .returned (.tuple #[v, .int .i64 0]) ∧ w'.ownsRow w.heap.size 5 1 v (pa.bytes r).length (u8s (pa.bytes r))) ∧ Below w.heap.size w w' := by
  obtain ⟨⟨hk1, hk2⟩, ⟨hr1, hr2⟩, hl4, hn30, hln, hm3, hd6⟩ := pa.check_ok hck
  obtain ⟨⟨⟨-, -, io, il, ig⟩, -⟩, hnv, hmv, hdv⟩ := h
  unfold pq.int at io il ig
  obtain ⟨A1, c1, e1, hat, hac, hacm, -⟩ := hnv
  obtain ⟨rfl, rfl⟩ : An = A1 ∧ cn = c1 := by injection e1 with q1 q2 q3; exact ⟨q1, q3⟩
  obtain ⟨A3, c3, e3, hmt, hmc, hmcm, hmi⟩ := hmv
  obtain ⟨rfl, rfl⟩ : Am = A3 ∧ cm = c3 := by injection e3 with q1 q2 q3; exact ⟨q1, q3⟩
  obtain ⟨A2, c2, e2, hbt, hbc, hbcm, hby⟩ := hdv
  obtain ⟨rfl, rfl⟩ : Ad = A2 ∧ cd = c2 := by injection e2 with q1 q2 q3; exact ⟨q1, q3⟩
  clear e1 e2 e3 hck
  have hs4 := pq.long_no hl4
  have hsn := pq.long_no hln
  obtain ⟨L, hL⟩ : ∃ L, L = pa.bytes r := ⟨_, rfl⟩
  rw [← hL]
  unfold pa.bytes at hL
  obtain ⟨x0, hx0⟩ : ∃ x, x = wire.be r.corr.toNat 4 := ⟨_, rfl⟩
  obtain ⟨x1, hx1⟩ : ∃ x, x = wire.be r.code.toNat 2 := ⟨_, rfl⟩
  obtain ⟨x2, hx2⟩ : ∃ x, x = num.put r.off := ⟨_, rfl⟩
  obtain ⟨x3, hx3⟩ : ∃ x, x = num.put r.last := ⟨_, rfl⟩
  obtain ⟨x4, hx4⟩ : ∃ x, x = num.put r.gen := ⟨_, rfl⟩
  obtain ⟨x5, hx5⟩ : ∃ x, x = pq.text r.member := ⟨_, rfl⟩
  obtain ⟨x6, hx6⟩ : ∃ x, x = pq.text r.leader := ⟨_, rfl⟩
  have s5 := hs4 r.member (by simp)
  have s6 := hs4 r.leader (by simp)
  have l0 : x0.length ≤ 200 := by rw [hx0, wire.be_len]; omega
  have l1 : x1.length ≤ 200 := by rw [hx1, wire.be_len]; omega
  have l2 : x2.length ≤ 200 := by rw [hx2]; have := (num.put_bd r.off).2; omega
  have l3 : x3.length ≤ 200 := by rw [hx3]; have := (num.put_bd r.last).2; omega
  have l4 : x4.length ≤ 200 := by rw [hx4]; have := (num.put_bd r.gen).2; omega
  have l5 : x5.length ≤ 200 := by rw [hx5]; have := (pq.text_len r.member).2; omega
  have l6 : x6.length ≤ 200 := by rw [hx6]; have := (pq.text_len r.leader).2; omega
  rw [← hx0, ← hx1, ← hx2, ← hx3, ← hx4, ← hx5, ← hx6] at hL
  have HLEN := Lib.hid (And.intro l0 (And.intro l1 (And.intro l2 (And.intro l3 (And.intro l4 (And.intro l5 l6))))))
  clear l0 l1 l2 l3 l4 l5 l6
  have hfix0 : wire.fit r.corr 4 = true := by unfold wire.fit; simp; omega
  have hfix1 : wire.fit r.code 2 = true := by unfold wire.fit; simp; omega
  have c0 : ∀ wB p wx L, WrL wB p p L wx → L.length ≤ 100000 → Calls Try.prog 27 #[.pointer (some ⟨p, 0, none⟩), .int .i64 r.corr, .int .i64 4] wx fun e w' => e = .returned (.pointer (some ⟨p, 0, none⟩)) ∧ WrL wB p p (L ++ x0) w' := fun wB p wx L h hl => by
    rw [hx0]
    exact h.fixed (by omega) r.corr 4 (by omega) (by omega) (by omega) hfix0 (by omega)
  have c1 : ∀ wB p wx L, WrL wB p p L wx → L.length ≤ 100000 → Calls Try.prog 27 #[.pointer (some ⟨p, 0, none⟩), .int .i64 r.code, .int .i64 2] wx fun e w' => e = .returned (.pointer (some ⟨p, 0, none⟩)) ∧ WrL wB p p (L ++ x1) w' := fun wB p wx L h hl => by
    rw [hx1]
    exact h.fixed (by omega) r.code 2 (by omega) (by omega) (by omega) hfix1 (by omega)
  have c2 : ∀ wB p wx L, WrL wB p p L wx → L.length ≤ 100000 → Calls Try.prog 29 #[.pointer (some ⟨p, 0, none⟩), .int .i64 r.off] wx fun e w' => e = .returned (.pointer (some ⟨p, 0, none⟩)) ∧ WrL wB p p (L ++ x2) w' := fun wB p wx L h hl => by
    rw [hx2]
    exact h.num (by omega) r.off (by omega) (by omega)
  have c3 : ∀ wB p wx L, WrL wB p p L wx → L.length ≤ 100000 → Calls Try.prog 29 #[.pointer (some ⟨p, 0, none⟩), .int .i64 r.last] wx fun e w' => e = .returned (.pointer (some ⟨p, 0, none⟩)) ∧ WrL wB p p (L ++ x3) w' := fun wB p wx L h hl => by
    rw [hx3]
    exact h.num (by omega) r.last (by omega) (by omega)
  have c4 : ∀ wB p wx L, WrL wB p p L wx → L.length ≤ 100000 → Calls Try.prog 29 #[.pointer (some ⟨p, 0, none⟩), .int .i64 r.gen] wx fun e w' => e = .returned (.pointer (some ⟨p, 0, none⟩)) ∧ WrL wB p p (L ++ x4) w' := fun wB p wx L h hl => by
    rw [hx4]
    exact h.num (by omega) r.gen (by omega) (by omega)
  have c5 : ∀ wB p wx L, WrL wB p p L wx → L.length ≤ 100000 → Calls Try.prog 28 #[.pointer (some ⟨p, 0, none⟩), .string r.member] wx fun e w' => e = .returned (.pointer (some ⟨p, 0, none⟩)) ∧ WrL wB p p (L ++ x5) w' := fun wB p wx L h hl => by
    rw [hx5]
    exact h.text r.member (by omega)
  have c6 : ∀ wB p wx L, WrL wB p p L wx → L.length ≤ 100000 → Calls Try.prog 28 #[.pointer (some ⟨p, 0, none⟩), .string r.leader] wx fun e w' => e = .returned (.pointer (some ⟨p, 0, none⟩)) ∧ WrL wB p p (L ++ x6) w' := fun wB p wx L h hl => by
    rw [hx6]
    exact h.text r.leader (by omega)
  have HC := Lib.hid (And.intro c0 (And.intro c1 (And.intro c2 (And.intro c3 (And.intro c4 (And.intro c5 c6))))))
  clear c0 c1 c2 c3 c4 c5 c6 hx0 hx1 hx2 hx3 hx4 hx5 hx6 hfix0 hfix1 s5 s6 hs4
  obtain ⟨nn, hnn⟩ : ∃ n, n = r.names.length := ⟨_, rfl⟩
  obtain ⟨nm, hnm⟩ : ∃ n, n = r.nums.length := ⟨_, rfl⟩
  obtain ⟨nd, hnd⟩ : ∃ n, n = r.data.length := ⟨_, rfl⟩
  unfold PAns.cells
  rw [← hnn, ← hnm, ← hnd]
  rw [← hnn] at hn30 hat hac
  rw [← hnm] at hm3 hmt hmc
  rw [← hnd] at hd6 hbt hbc
  rw [← hnn, ← hnm, ← hnd] at hL
  obtain ⟨bx, hbx⟩ : ∃ b, b = w.heap.size := ⟨_, rfl⟩
  obtain ⟨w1, hw1⟩ : ∃ w1, w1 = w.alloc (.cells #[.int .i64 r.corr, .int .i64 r.code, .int .i64 r.off, .int .i64 r.last, .int .i64 r.gen, .string r.member, .string r.leader, .slice An nn cn, .slice Am nm cm, .slice Ad nd cd] 41) := ⟨_, rfl⟩
  have hk1' : Blk w1 bx 41 #[.int .i64 r.corr, .int .i64 r.code, .int .i64 r.off, .int .i64 r.last, .int .i64 r.gen, .string r.member, .string r.leader, .slice An nn cn, .slice Am nm cm, .slice Ad nd cd] := by rw [hw1, hbx]; exact Blk.new _ _ _
  have hb1 : Below w.heap.size w w1 := by rw [hw1]; exact (Below.refl _ _).alloc (Nat.le_refl _) _
  have HA := Lib.hid (And.intro hat (And.intro hmt (And.intro hbt (And.intro hsn (And.intro hL (And.intro hnn (And.intro hnm (And.intro hnd (And.intro hb1 (And.intro hk1' (And.intro hbx hmi))))))))))); clear hat hmt hbt hsn hL hnn hnm hnd hb1 hmi
  have y0 := hk1'.cell 0 (v := .int .i64 r.corr) rfl
  have y1 := hk1'.cell 1 (v := .int .i64 r.code) rfl
  have y2 := hk1'.cell 2 (v := .int .i64 r.off) rfl
  have y3 := hk1'.cell 3 (v := .int .i64 r.last) rfl
  have y4 := hk1'.cell 4 (v := .int .i64 r.gen) rfl
  have y5 := hk1'.cell 5 (v := .string r.member) rfl
  have y6 := hk1'.cell 6 (v := .string r.leader) rfl
  have y7 := hk1'.cell 7 (v := .slice An nn cn) rfl
  have y8 := hk1'.cell 8 (v := .slice Am nm cm) rfl
  have y9 := hk1'.cell 9 (v := .slice Ad nd cd) rfl
  have yl := hk1'.lt
  clear hk1'
  have d0 : decide (r.corr < 0) = false := decide_eq_false (by omega)
  have d1 : decide (2147483647 < r.corr) = false := decide_eq_false (by omega)
  have d2 : decide (r.code < 0) = false := decide_eq_false (by omega)
  have d3 : decide (65535 < r.code) = false := decide_eq_false (by omega)
  go_enter Try.func18, Try.ntmps18
  go_upto_region 1 with fail
  rw [← hw1, ← hbx]
  clear hw1 hbx
  go_upto_region 3 with fail
  have hlong := pq.long_any [r.member, r.leader] (some ⟨w1.heap.size, 0, none⟩) 2 (w1.alloc (.cells #[.string r.member, .string r.leader] 9)) (pq.at_two w1 _ _ _) (by unfold maxLen; simp)
  rw [hl4] at hlong
  have HLONG := Lib.hid hlong; clear hlong hl4
  go_upto_region 4 with (go_at_call 26; refine HLONG.out.mono ?_; rintro e w2 ⟨rfl, h1⟩; have H2 := Lib.hid h1; clear h1)
  have hb12 : Below w1.heap.size w1 w2 := ((Below.refl w1.heap.size w1).alloc (Nat.le_refl _) _).trans (H2.out.mono (by rw [World.size_alloc]; omega))
  have hk2' := (chg_of (P := fun _ => False) hb12).blk HA.out.2.2.2.2.2.2.2.2.2.1 fun q => q
  have HB2 := Lib.hid (And.intro hb12 hk2'); clear hb12 hk2' d0 d1 d2 d3
  clear y0 y1 y2 y3 y4 y5 y6 y7 y8 y9 yl
  have y7 := HB2.out.2.cell 7 (v := .slice An nn cn) rfl
  have y8 := HB2.out.2.cell 8 (v := .slice Am nm cm) rfl
  have y9 := HB2.out.2.cell 9 (v := .slice Ad nd cd) rfl
  have yl := HB2.out.2.lt
  have e0 : decide (1000 < nn) = false := decide_eq_false (by omega)
  have e0' : decide (1000 < (nn : Int)) = false := decide_eq_false (by omega)
  have e2 : decide (1000 < nm) = false := decide_eq_false (by omega)
  have e2' : decide (1000 < (nm : Int)) = false := decide_eq_false (by omega)
  have e1 : decide (131072 < nd) = false := decide_eq_false (by omega)
  have e1' : decide (131072 < (nd : Int)) = false := decide_eq_false (by omega)
  have hlong2 := pq.long_any r.names An cn w2 (by rw [← HA.out.2.2.2.2.2.1]; exact HA.out.1.below (HA.out.2.2.2.2.2.2.2.2.1.trans (HB2.out.1.mono HA.out.2.2.2.2.2.2.2.2.1.size)) (Nat.le_refl _)) (by rw [← HA.out.2.2.2.2.2.1]; unfold maxLen; omega)
  rw [hln, ← HA.out.2.2.2.2.2.1] at hlong2
  have HLONG2 := Lib.hid hlong2; clear hlong2 hln
  go_upto_region 6 with (go_at_call 26; refine HLONG2.out.mono ?_; rintro e w3 ⟨rfl, h1⟩; have H3 := Lib.hid h1; clear h1)
  clear y7 y8 y9 yl
  have hk3' := (chg_of (P := fun _ => False) H3.out).blk HB2.out.2 fun q => q
  have HB3 := Lib.hid hk3'; clear hk3'
  have y8 := HB3.out.cell 8 (v := .slice Am nm cm) rfl
  have y9 := HB3.out.cell 9 (v := .slice Ad nd cd) rfl
  have yl := HB3.out.lt
  go_upto_region 10 with fail
  clear y8 y9 yl e0 e0' e1 e1' e2 e2'
  obtain ⟨p, hp⟩ : ∃ p, p = w3.heap.size := ⟨_, rfl⟩
  obtain ⟨wB, hwB⟩ : ∃ wB, wB = w3.alloc (.cells #[.slice none 0 0, .bool false] 59) := ⟨_, rfl⟩
  rw [← hwB, ← hp]
  have hwr : WrL wB p p [] wB := by rw [hwB, hp]; exact WrL.start _ rfl
  have hc3B : Chg w3 wB (fun _ => False) := by rw [hwB]; exact Chg.alloc _ _ _
  have hkB := hc3B.blk HB3.out fun q => q
  have hbxp : bx < p := by rw [hp]; exact HB3.out.lt
  have hbB : Below w.heap.size w wB := ((HA.out.2.2.2.2.2.2.2.2.1.trans (HB2.out.1.mono HA.out.2.2.2.2.2.2.2.2.1.size)).trans (H3.out.mono (Nat.le_trans HA.out.2.2.2.2.2.2.2.2.1.size HB2.out.1.size))).trans (hc3B.below (Nat.le_trans (Nat.le_trans HA.out.2.2.2.2.2.2.2.2.1.size HB2.out.1.size) H3.out.size) fun _ q => q.elim)
  have hwp : w.heap.size ≤ p := by rw [hp]; exact Nat.le_trans (Nat.le_trans HA.out.2.2.2.2.2.2.2.2.1.size HB2.out.1.size) H3.out.size
  have hW0 : WrL wB p p [] wB.drew := hwr.keep (bdrew (Below.refl _ _) 1)
  have HW := Lib.hid (And.intro hkB (And.intro hbxp (And.intro hbB hwp))); clear hkB hbxp hbB hwp hc3B hwB hp hwr
  have H0 := Lib.hid hW0; clear hW0
  have z0 : ∀ x : Later wB (fun k => p ≤ k), x.1.cell? ⟨bx, 0, none⟩ = some (.int .i64 r.corr) := fun x => (x.2.blk HW.out.1 (Nat.not_le.2 HW.out.2.1)).cell 0 rfl
  have z1 : ∀ x : Later wB (fun k => p ≤ k), x.1.cell? ⟨bx, 1, none⟩ = some (.int .i64 r.code) := fun x => (x.2.blk HW.out.1 (Nat.not_le.2 HW.out.2.1)).cell 1 rfl
  have z2 : ∀ x : Later wB (fun k => p ≤ k), x.1.cell? ⟨bx, 2, none⟩ = some (.int .i64 r.off) := fun x => (x.2.blk HW.out.1 (Nat.not_le.2 HW.out.2.1)).cell 2 rfl
  have z3 : ∀ x : Later wB (fun k => p ≤ k), x.1.cell? ⟨bx, 3, none⟩ = some (.int .i64 r.last) := fun x => (x.2.blk HW.out.1 (Nat.not_le.2 HW.out.2.1)).cell 3 rfl
  have z4 : ∀ x : Later wB (fun k => p ≤ k), x.1.cell? ⟨bx, 4, none⟩ = some (.int .i64 r.gen) := fun x => (x.2.blk HW.out.1 (Nat.not_le.2 HW.out.2.1)).cell 4 rfl
  have z5 : ∀ x : Later wB (fun k => p ≤ k), x.1.cell? ⟨bx, 5, none⟩ = some (.string r.member) := fun x => (x.2.blk HW.out.1 (Nat.not_le.2 HW.out.2.1)).cell 5 rfl
  have z6 : ∀ x : Later wB (fun k => p ≤ k), x.1.cell? ⟨bx, 6, none⟩ = some (.string r.leader) := fun x => (x.2.blk HW.out.1 (Nat.not_le.2 HW.out.2.1)).cell 6 rfl
  have hS0 : later wB (fun k => p ≤ k) wB.drew := later_of ((Chg.refl _ _).drew)
  refine wp_plan (S := fun w0 => ∃ x : Later wB (fun k => p ≤ k), w0 = x.1) (by kernel_rfl) hS0 ?_
  intro hS' K5 hK5
  have HS := Lib.hid hS'; clear hS' hS0
  refine plan_group [true, true, false, true, true, false, true, true, false, true, true, false, true, true, false, true, true, false, true, true] [0, 1, 3, 4, 6, 7, 9, 10, 12, 13, 15, 16, 18, 19] 7 (by dsimp only [sel]) (by rfl) rfl (by kernel_rfl) (by kernel_rfl) HS.out ?_
  (repeat go_big_quiet_step (fail)); refine wpQuiet_nil ?_
  clear z0 z1 z2 z3 z4 z5 z6
  refine plan_one [false, false, true] 2 6 (by dsimp only [sel]) (by rfl) rfl (by kernel_rfl) ?_; intro K0 hK0
  go_wp2_with (go_at_call 27; refine (HC.out.1 wB p _ _ H0.out (by simp only [List.length_nil]; omega)).mono ?_; rintro e v0 ⟨rfl, h1⟩; have H1w := Lib.hid h1; clear h1)
  refine ⟨by first | exact later_of H1w.out.2.1 | exact fun _ => later_of H1w.out.2.1, ?_⟩
  refine plan_one [false, false, false, false, false, true] 5 5 (by dsimp only [sel]) (by rfl) rfl (by kernel_rfl) ?_; intro K1 hK1
  go_wp2_with (go_at_call 27; refine (HC.out.2.1 wB p _ _ H1w.out (by have := HLEN.out; simp only [List.length_append, List.length_nil]; omega)).mono ?_; rintro e v1 ⟨rfl, h1⟩; have H2w := Lib.hid h1; clear h1)
  refine ⟨by first | exact later_of H2w.out.2.1 | exact fun _ => later_of H2w.out.2.1, ?_⟩
  refine plan_one [false, false, false, false, false, false, false, false, true] 8 4 (by dsimp only [sel]) (by rfl) rfl (by kernel_rfl) ?_; intro K2 hK2
  go_wp2_with (go_at_call 29; refine (HC.out.2.2.1 wB p _ _ H2w.out (by have := HLEN.out; simp only [List.length_append, List.length_nil]; omega)).mono ?_; rintro e v2 ⟨rfl, h1⟩; have H3w := Lib.hid h1; clear h1)
  refine ⟨by first | exact later_of H3w.out.2.1 | exact fun _ => later_of H3w.out.2.1, ?_⟩
  refine plan_one [false, false, false, false, false, false, false, false, false, false, false, true] 11 3 (by dsimp only [sel]) (by rfl) rfl (by kernel_rfl) ?_; intro K3 hK3
  go_wp2_with (go_at_call 29; refine (HC.out.2.2.2.1 wB p _ _ H3w.out (by have := HLEN.out; simp only [List.length_append, List.length_nil]; omega)).mono ?_; rintro e v3 ⟨rfl, h1⟩; have H4w := Lib.hid h1; clear h1)
  refine ⟨by first | exact later_of H4w.out.2.1 | exact fun _ => later_of H4w.out.2.1, ?_⟩
  refine plan_one [false, false, false, false, false, false, false, false, false, false, false, false, false, false, true] 14 2 (by dsimp only [sel]) (by rfl) rfl (by kernel_rfl) ?_; intro K4 hK4
  go_wp2_with (go_at_call 29; refine (HC.out.2.2.2.2.1 wB p _ _ H4w.out (by have := HLEN.out; simp only [List.length_append, List.length_nil]; omega)).mono ?_; rintro e v4 ⟨rfl, h1⟩; have H5w := Lib.hid h1; clear h1)
  refine ⟨by first | exact later_of H5w.out.2.1 | exact fun _ => later_of H5w.out.2.1, ?_⟩
  refine plan_one [false, false, false, false, false, false, false, false, false, false, false, false, false, false, false, false, false, true] 17 1 (by dsimp only [sel]) (by rfl) rfl (by kernel_rfl) ?_; intro K5 hK5
  go_wp2_with (go_at_call 28; refine (HC.out.2.2.2.2.2.1 wB p _ _ H5w.out (by have := HLEN.out; simp only [List.length_append, List.length_nil]; omega)).mono ?_; rintro e v5 ⟨rfl, h1⟩; have H6w := Lib.hid h1; clear h1)
  refine ⟨by first | exact later_of H6w.out.2.1 | exact fun _ => later_of H6w.out.2.1, ?_⟩
  refine plan_one [false, false, false, false, false, false, false, false, false, false, false, false, false, false, false, false, false, false, false, false, true] 20 0 (by dsimp only [sel]) (by rfl) rfl (by kernel_rfl) ?_; intro K6 hK6
  go_wp2_with (go_at_call 28; refine (HC.out.2.2.2.2.2.2 wB p _ _ H6w.out (by have := HLEN.out; simp only [List.length_append, List.length_nil]; omega)).mono ?_; rintro e v6 ⟨rfl, h1⟩; have H7w := Lib.hid h1; clear h1)
  refine ⟨by first | exact later_of H7w.out.2.1 | exact fun _ => later_of H7w.out.2.1, ?_⟩
  refine wp_plan_end (by kernel_rfl) ?_
  refine hK5 _ _ ?_
  clear HS
  have hlow : ∀ (A : Option Addr) (V : Nat → Value) (n : Nat), At w A n V → 0 < n → ∀ b off, A = some ⟨b, off, none⟩ → b < p := fun A V n ha hn b off hA => by
    obtain ⟨b', off', e, hb, -⟩ := ha hn
    rw [hA] at e
    obtain ⟨rfl, rfl⟩ : b = b' ∧ off = off' := by simpa using e
    have := HW.out.2.2.2
    omega
  have HLOW := Lib.hid hlow; clear hlow
  have hnm : ∀ s ∈ r.names, s.size ≤ 1000000 := fun s hs => by have := HA.out.2.2.2.1 s hs; omega
  have hwt := pq.writes_any H7w.out r.names An cn (by rw [← HA.out.2.2.2.2.2.1]; exact HA.out.1.below HW.out.2.2.1 (Nat.le_refl _)) (by rw [← HA.out.2.2.2.2.2.1]; exact HLOW.out _ _ _ HA.out.1) (by rw [← HA.out.2.2.2.2.2.1]; omega) hnm (by have := HLEN.out; simp only [List.length_append, List.length_nil]; omega)
  rw [← HA.out.2.2.2.2.2.1] at hwt
  have hk7 := H7w.out.2.1.blk HW.out.1 (Nat.not_le.2 HW.out.2.1)
  have y7 := hk7.cell 7 (v := .slice An nn cn) rfl
  have yl := hk7.lt
  have htl : (pq.texts r.names).length ≤ 1100000000 := by
    have h1 := pq.texts_len r.names hnm
    rw [← HA.out.2.2.2.2.2.1] at h1
    omega
  have HWT := Lib.hid (And.intro hwt htl); clear hwt hk7 htl hnm
  go_upto_region 12 with (go_at_call 30; refine HWT.out.1.mono ?_; rintro e va ⟨rfl, h1⟩; have HAw := Lib.hid h1; clear h1)
  clear y7 yl
  have hka := HAw.out.2.1.blk HW.out.1 (Nat.not_le.2 HW.out.2.1)
  have y8 := hka.cell 8 (v := .slice Am nm cm) rfl
  have yl := hka.lt
  have hnb := num.put_bd (nn : Int)
  have hla : ([] ++ x0 ++ x1 ++ x2 ++ x3 ++ x4 ++ x5 ++ x6 ++ num.put (nn : Int) ++ pq.texts r.names).length ≤ 1200000000 := by
    have h1 := HLEN.out
    have h2 := HWT.out.2
    simp only [List.length_append, List.length_nil]
    omega
  have hnu := HAw.out.num (by omega) (nm : Int) (by omega) (by omega)
  have HNU := Lib.hid (And.intro hnu hla); clear hnu hla hka hnb
  go_upto_region 13 with (go_at_call 29; refine HNU.out.1.mono ?_; rintro e vb ⟨rfl, h1⟩; have HBw := Lib.hid h1; clear h1)
  clear y8 yl
  have hkb := HBw.out.2.1.blk HW.out.1 (Nat.not_le.2 HW.out.2.1)
  have y8 := hkb.cell 8 (v := .slice Am nm cm) rfl
  have yl := hkb.lt
  clear hkb
  obtain ⟨X0, hX0⟩ : ∃ X, X = [] ++ x0 ++ x1 ++ x2 ++ x3 ++ x4 ++ x5 ++ x6 ++ num.put (nn : Int) ++ pq.texts r.names ++ num.put (nm : Int) := ⟨_, rfl⟩
  have hbw2 : WrL wB p p X0 vb := by rw [hX0]; exact HBw.out
  have hx0l : X0.length ≤ 1200000100 := by
    rw [hX0, List.length_append]
    have := HNU.out.2
    have h2 := (num.put_bd (nm : Int)).2
    omega
  have HX := Lib.hid (And.intro hbw2 (And.intro hx0l hX0)); clear hbw2 hx0l hX0 HBw
  go_wp2_with fail
  go_loopw [81] (fun i wr => ∃ j : Nat, j ≤ nm ∧ i = .int .i64 (j : Int) ∧ WrL wB p p (X0 ++ pa.nums (r.nums.take j)) wr) (fun i _ => nm - (intOf i).toNat)
  case atStart => exact ⟨0, by omega, rfl, by rw [show pa.nums (r.nums.take 0) = [] from rfl, List.append_nil]; exact HX.out.1⟩
  case round =>
    clear y8 yl
    obtain ⟨j, hj, rfl, hwr⟩ := hrel
    by_cases hlt : j < nm
    · have hlt' : (j : Int) < (nm : Int) := by omega
      obtain ⟨s, hsj⟩ : ∃ s, r.nums[j]? = some s := ⟨_, List.getElem?_eq_getElem (by have := HA.out.2.2.2.2.2.2.1; omega)⟩
      have hatr : At wr Am nm (fun j => .int .i64 (r.nums.getD j 0)) := hwr.2.1.at' (HA.out.2.1.below HW.out.2.2.1 (Nat.le_refl _)) fun hn b off hA hB => by have := HLOW.out _ _ _ HA.out.2.1 hn b off hA; omega
      obtain ⟨b, off, rfl, hb, hc⟩ := hatr (by omega)
      have c0 : wr.cell? ⟨b, off + j, none⟩ = some (.int .i64 s) := by rw [hc j hlt]; simp [List.getD, hsj]
      clear hc hatr
      have hss := HA.out.2.2.2.2.2.2.2.2.2.2.2 s (List.mem_of_getElem? hsj)
      unfold pq.int at hss
      have hlen : (X0 ++ pa.nums (r.nums.take j)).length ≤ 1300000000 := by
        have h1 := pa.nums_len (r.nums.take j)
        have h2 : (r.nums.take j).length ≤ 1000 := by rw [List.length_take]; omega
        have h3 := HX.out.2.1
        rw [List.length_append]
        omega
      have htx := hwr.num (by omega) s (by omega) (by omega)
      rw [List.append_assoc, ← pa.nums_succ hsj] at htx
      have HT := Lib.hid htx; clear htx hwr hlen hss hsj
      go_wp2_with (go_at_call 29; refine HT.out.mono ?_; rintro e w5 ⟨rfl, h1⟩; have H5 := Lib.hid h1; clear h1)
      exact ⟨⟨j + 1, by omega, by go_num, H5.out⟩, by simp [intOf]; omega⟩
    · obtain rfl : nm = j := by omega
      rw [List.take_of_length_le (by have := HA.out.2.2.2.2.2.2.1; omega)] at hwr
      have H12w := Lib.hid hwr; clear hwr hlt
      have hk12 := H12w.out.2.1.blk HW.out.1 (Nat.not_le.2 HW.out.2.1)
      have y9 := hk12.cell 9 (v := .slice Ad nd cd) rfl
      have yl := hk12.lt
      have hat12 : At wr Ad nd (byteAt r.data) := H12w.out.2.1.at' (HA.out.2.2.1.below HW.out.2.2.1 (Nat.le_refl _)) fun hn b off hA hB => by have := HLOW.out _ _ _ HA.out.2.2.1 hn b off hA; omega
      have hlb : (X0 ++ pa.nums r.nums).length ≤ 1300000000 := by
        have h1 := pa.nums_len r.nums
        have h3 := HX.out.2.1
        have h4 := HA.out.2.2.2.2.2.2.1
        rw [List.length_append]
        omega
      have hby := H12w.out.bytes Ad cd r.data (by rw [← HA.out.2.2.2.2.2.2.2.1]; omega) (by rw [← HA.out.2.2.2.2.2.2.2.1]; exact hat12) (by rw [← HA.out.2.2.2.2.2.2.2.1]; exact HLOW.out _ _ _ HA.out.2.2.1)
      have hLe : X0 ++ pa.nums r.nums ++ num.put (nd : Int) ++ r.data = L := by rw [HA.out.2.2.2.2.1, HX.out.2.2]
      rw [← HA.out.2.2.2.2.2.2.2.1, hLe] at hby
      have hLl : L.length ≤ 1500000000 := by
        have h2 := num.put_bd (nd : Int)
        rw [← hLe]
        rw [List.length_append, List.length_append, ← HA.out.2.2.2.2.2.2.2.1]
        omega
      have HBY := Lib.hid (And.intro hby hLl); clear hby hLl hlb hat12 hk12 hLe
      go_wp2_with (first
        | (go_at_call 32; refine (WrL.done H13w.out (by have := HBY.out.2; omega)).mono ?_; rintro e v13 ⟨⟨uu, rfl, h1⟩, h2⟩; have H14 := Lib.hid (And.intro h1 h2); clear h1 h2)
        | (go_at_call 31; refine HBY.out.1.mono ?_; rintro e v12 ⟨rfl, h1⟩; have H13w := Lib.hid h1; clear h1))
      go_ret2
      have hfin : Below w.heap.size w v13 := by
        have a1 : Chg w v12 (fun k => p ≤ k) := (chg_of (P := fun k => p ≤ k) HW.out.2.2.1).trans H13w.out.2.1 fun _ _ q => q
        exact (a1.below (Nat.le_refl _) fun k q => Nat.le_trans HW.out.2.2.2 q).trans (H14.out.2.mono (Nat.le_trans (by exact HW.out.2.2.1.size) H13w.out.2.1.size))
      exact ⟨⟨uu, rfl, ownsRow_base H14.out.1 (Nat.le_trans HW.out.2.2.1.size H13w.out.2.1.size)⟩, hfin⟩
/-- What Answer says of any answer. -/
theorem pa.answer_any (r : PAns) (An : Option Addr) (cn : Nat) (Am : Option Addr) (cm : Nat) (Ad : Option Addr) (cd : Nat) (w : World) (h : AnsV w An cn Am cm Ad cd r) :
    Calls Try.prog 18 #[.agg (r.cells An cn Am cm Ad cd)] w fun e w' => (∃ v, e = .returned (.tuple #[v, .int .i64 (pa.check r)]) ∧ w'.ownsRow w.heap.size 5 1 v (if pa.check r = 0 then pa.bytes r else []).length (u8s (if pa.check r = 0 then pa.bytes r else []))) ∧ Below w.heap.size w w' := by
  by_cases h0 : pa.check r = 0
  · rw [if_pos h0, h0]
    exact pa.answer_ok r An cn Am cm Ad cd w h h0
  · rw [if_neg h0]
    refine (pa.answer_bad r An cn Am cm Ad cd w h h0).mono ?_
    rintro e w' ⟨rfl, hb⟩
    exact ⟨⟨_, rfl, World.ownsRow_nil _ _ _ _⟩, hb⟩
end
section
open Go.RowKit Go.Maps
set_option maxRecDepth 20000
theorem pk.infoInt2 : (Try.prog.info? 3).map (fun i => (i.zero, i.size, i.bytes)) = some (some (.int .i64 0), 1, 8) := by kernel_rfl
/-- So many numbers. -/
def rd.ints : Nat → List Nat → Int → List Int × List Nat × Int
  | 0, L, e => ([], L, e)
  | k + 1, L, e => ((rd.num L e).1 :: (rd.ints k (rd.num L e).2.1 (rd.num L e).2.2).1, (rd.ints k (rd.num L e).2.1 (rd.num L e).2.2).2)
theorem rd.ints_len : ∀ (k : Nat) (L : List Nat) (e : Int), (rd.ints k L e).1.length = k
  | 0, _, _ => rfl
  | k + 1, L, e => by
    show (rd.ints k _ _).1.length + 1 = k + 1
    rw [rd.ints_len k]
/-- How many there are, at most so many, and these; the error that is told. -/
def pa.list (most : Int) (L : List Nat) (e : Int) : List Int × List Nat × Int :=
  if (rd.num L e).2.2 = 0 ∧ ((rd.num L e).1 < 0 ∨ most < (rd.num L e).1) then ([], (rd.num L e).2.1, 2) else rd.ints (rd.num L e).1.toNat (rd.num L e).2.1 (rd.num L e).2.2
set_option maxHeartbeats 4000000 in
theorem pa.ilist_any (Q : Nat → Prop) (most : Int) (r : Nat) (L : List Nat) (e : Int) (w : World) (hm : 0 ≤ most ∧ most ≤ 1000) (h : RdQ Q w r L e) (hQ : ∀ k, Q k → k < w.heap.size) :
    Calls Try.prog 72 #[.pointer (some ⟨r, 0, none⟩), .int .i64 most, .func (.func 64) #[.pointer (some ⟨r, 0, none⟩)] #[]] w fun en w' => (∃ v, en = .returned (.tuple #[v, .int .i64 (pa.list most L e).2.2]) ∧
      w'.ownsRow w.heap.size 3 1 v (pa.list most L e).1.length ((pa.list most L e).1.map fun s => .int .i64 s)) ∧ ((pa.list most L e).2.2 = 0 → RdQ Q w' r (pa.list most L e).2.1 0) ∧ Chg w w' (rdT r) := by
  have hnum := rdq.num Q r L e w h
  have hz := @rd.num_zero L e
  obtain ⟨q0, hq0⟩ : ∃ q, q = pa.list most L e := ⟨_, rfl⟩
  rw [← hq0]
  unfold pa.list at hq0
  obtain ⟨⟨n, L1, e1⟩, hq⟩ : ∃ q, rd.num L e = q := ⟨_, rfl⟩
  rw [hq] at hnum hz hq0
  dsimp only at hnum hz hq0
  clear hq h
  obtain ⟨i0, hi0, hz0, hz1, hz2⟩ := info_parts pk.infoInt2
  have HI := Lib.hid (And.intro hi0 (And.intro hz0 (And.intro hz1 hz2))); clear hi0 hz0 hz1 hz2
  have HN := Lib.hid (And.intro hnum (And.intro True.intro hq0)); clear hnum hq0
  have HQW := Lib.hid hQ; clear hQ
  by_cases hbad : e1 = 0 ∧ (n < 0 ∨ most < n)
  · obtain ⟨rfl, hbad⟩ := hbad
    have hq0 := HN.out.2.2
    rw [if_pos ⟨rfl, hbad⟩] at hq0
    subst hq0
    clear hz
    have hc : decide (n < 0) = true ∨ (decide (n < 0) = false ∧ decide (most < n) = true) := by simp only [decide_eq_true_eq, decide_eq_false_iff_not]; omega
    clear hbad
    rcases hc with d1 | ⟨d1, d2⟩
    all_goals
      go_enter Try.func72, Try.ntmps72
      go_wp2_with (first
        | (go_at_call 60; refine (rdq.err H2.out.1).mono ?_; rintro en w1' ⟨rfl, h3⟩; subst h3)
        | (go_at_call 64; refine HN.out.1.mono ?_; rintro en w1 ⟨rfl, h1, h2⟩; have H2 := Lib.hid (And.intro h1 h2); clear h1 h2))
      go_ret2
      exact ⟨⟨_, rfl, World.ownsRow_nil _ _ _ _⟩, fun h => absurd h (by decide), H2.out.2⟩
  · obtain ⟨k, rfl, hk⟩ : ∃ k : Nat, n = (k : Int) ∧ k ≤ 1000 := by
      by_cases h0 : e1 = 0
      · exact ⟨n.toNat, by omega, by omega⟩
      · exact ⟨0, hz h0, by omega⟩
    clear hz
    have hq0 := HN.out.2.2
    rw [if_neg hbad, Int.toNat_natCast] at hq0
    have HQ0 := Lib.hid hq0; clear hq0
    go_enter Try.func72, Try.ntmps72
    go_upto_region 2 with (go_at_call 64; refine HN.out.1.mono ?_; rintro en w1 ⟨rfl, h1, h2⟩; have H2 := Lib.hid (And.intro h1 h2); clear h1 h2)
    go_cut [23] from 10 (fun s23 wx => s23 = .bool false ∧ w1 = wx)
    case first =>
      by_cases h0 : e1 = 0
      · subst h0
        have d1 : decide ((k : Int) < 0) = false := decide_eq_false (by omega)
        have d2 : decide (most < (k : Int)) = false := decide_eq_false (fun h => hbad ⟨rfl, .inr h⟩)
        clear hbad
        go_wp2_with (go_at_call 60; refine (rdq.err H2.out.1).mono ?_; rintro en w1' ⟨rfl, h3⟩; subst h3)
        go_meet
        case rel => exact ⟨rfl, rfl⟩
      · have d1 : (e1 == 0) = false := by simp [h0]
        clear hbad h0
        go_wp2_with (go_at_call 60; refine (rdq.err H2.out.1).mono ?_; rintro en w1' ⟨rfl, h3⟩; subst h3)
        go_meet
        case rel => exact ⟨rfl, rfl⟩
    case rest =>
      obtain ⟨rfl, rfl⟩ := hcut
      clear hbad
      go_wp2_with fail
      go_loopw [9, 25] (fun l i wx => ∃ (j : Nat) (ns : List Int) (Lj : List Nat) (ej : Int), j ≤ k ∧ i = .int .i64 (j : Int) ∧ ns.length = j ∧ rd.ints k L1 e1 = (ns ++ (rd.ints (k - j) Lj ej).1, (rd.ints (k - j) Lj ej).2) ∧ wx.ownsRow w.heap.size 3 1 l j (ns.map fun s => .int .i64 s) ∧ RdQ Q wx r Lj ej ∧ Chg w wx (rdT r)) (fun _ i _ => k - (intOf i).toNat)
      case atStart => exact ⟨0, [], L1, e1, by omega, rfl, rfl, by simp, World.ownsRow_nil _ _ _ _, H2.out.1, H2.out.2⟩
      case round =>
        obtain ⟨j, ns, Lj, ej, hj, rfl, hns, htx, hown, hrd, hcw⟩ := hrel
        obtain ⟨Al, cl, rfl, -, -⟩ := own_at hown
        by_cases hlt : j < k
        · have hlt' : (j : Int) < (k : Int) := by omega
          have hclos := rdq.num _ r Lj ej wr hrd
          rw [show k - j = (k - (j + 1)) + 1 by omega] at htx
          rw [rd.ints] at htx
          obtain ⟨⟨s, Lj1, ej1⟩, hpj⟩ : ∃ q, rd.num Lj ej = q := ⟨_, rfl⟩
          rw [hpj] at htx hclos
          dsimp only at htx hclos
          clear hpj
          have hrow : (Value.slice Al j cl).ownBlock ≠ some r := by
            obtain ⟨cs, hb⟩ := hrd.blk
            exact hb.not_row (by decide) hown
          have HJ := Lib.hid (And.intro hclos (And.intro hns (And.intro htx (And.intro hown (And.intro hcw hrow))))); clear hclos hns htx hown hcw hrow hrd
          go_wp2_with fail
          refine HJ.out.1.mono ?_
          rintro en w4 ⟨rfl, hr4, hc4⟩
          obtain ⟨wa, hwa⟩ : ∃ wa, wa = w4.alloc (.cells #[.int .i64 s] 3) := ⟨_, rfl⟩
          have hba : Below w4.heap.size w4 wa := by rw [hwa]; exact (Below.refl _ _).alloc (Nat.le_refl _) _
          have howna : wa.ownsRow w.heap.size 3 1 (.slice Al j cl) j (ns.map fun s => .int .i64 s) := (chg_of (P := fun _ => False) hba).own (hc4.own HJ.out.2.2.2.1 fun q hq e => HJ.out.2.2.2.2.2 (by rw [hq, show q = r from e])) fun _ _ q => q
          have hra := hr4.keep hba
          have hcwa : Chg w wa (rdT r) := (HJ.out.2.2.2.2.1.trans hc4 fun _ _ q => q).trans (chg_of (P := fun _ => False) hba) fun _ _ q => q.elim
          have hcell := pq.new_one w4 (.int .i64 s) 3 w4.heap.size rfl
          have happ : ∀ v2 w9, w9.ownsRow w.heap.size 3 1 v2 (j + 1) ((ns.map fun s => .int .i64 s) ++ [.int .i64 s]) → wa.grownBy w9 (Value.slice Al j cl).ownBlock → w9.ownsRow w.heap.size 3 1 v2 (j + 1) ((ns ++ [s]).map fun s => .int .i64 s) ∧ RdQ Q w9 r Lj1 ej1 ∧ Chg w w9 (rdT r) := fun v2 w9 h1 h2 =>
            ⟨by rw [List.map_append]; exact h1, hra.chg (Chg.grown h2) HJ.out.2.2.2.2.2 fun q hq e => by have h1 := (howna.lt q e).1; have h2 := HQW.out q hq; omega, hcwa.trans (Chg.grown h2) fun q hq e => absurd (howna.lt q e).1 (Nat.not_le.2 hq)⟩
          have hszw : w.heap.size ≤ wa.heap.size := hcwa.size
          have HAPP := Lib.hid (And.intro happ (And.intro howna (And.intro hcell (And.intro hwa hszw)))); clear happ howna hcell hwa hszw hba hra hcwa hr4 hc4
          go_wp2_with (at_builtin; rw [← HAPP.out.2.2.2.1]; refine wpList_append_own_at _ rfl (.tmp 27) (.tmp 30) 39 rfl w.heap.size 3 i0 _ 1 8 Try.underlying39 HI.out.1 HI.out.2.1 HI.out.2.2.1 HI.out.2.2.2 rfl (by decide) (.slice Al j cl) j (ns.map fun s => .int .i64 s) rfl HAPP.out.2.1 ⟨w4.heap.size, 0, none⟩ 1 1 [.int .i64 s] rfl rfl (by rw [HAPP.out.2.2.2.1]; exact HAPP.out.2.2.1) (by simp [Value.oneCell']) (by unfold maxLen; omega) (by omega) HAPP.out.2.2.2.2 ?_; intro v2 w9 h1 h2 _ h3; have HN9 := Lib.hid (HAPP.out.1 v2 w9 h1 h2); clear h1 h2 h3)
          go_wp2_with fail
          go_roundw
          case rel => exact ⟨j + 1, ns ++ [s], Lj1, ej1, by omega, by go_num, by rw [List.length_append, HJ.out.2.1]; rfl, by rw [HJ.out.2.2.1, List.append_assoc]; rfl, HN9.out.1, HN9.out.2.1, HN9.out.2.2⟩
          case measure => simp [intOf]; omega
        · obtain rfl : k = j := by omega
          rw [Nat.sub_self] at htx
          have hq1 : q0 = (ns, Lj, ej) := by rw [HQ0.out, htx]; simp [rd.ints]
          subst hq1
          have HF := Lib.hid (And.intro hns (And.intro hown (And.intro hrd hcw))); clear hns hown hrd hcw htx hlt HQ0
          go_wp2_with (go_at_call 60; refine (rdq.err HF.out.2.2.1).mono ?_; rintro en w1' ⟨rfl, h3⟩; subst h3)
          go_ret2
          exact ⟨⟨_, rfl, by dsimp only; rw [HF.out.1]; exact HF.out.2.1⟩, fun h => by have h : ej = 0 := h; subst h; exact HF.out.2.2.1, HF.out.2.2.2⟩
end
section
open Go.RowKit Go.Maps
set_option maxRecDepth 20000
theorem pa.clos_any (Q : Nat → Prop) (bx r : Nat) (L : List Nat) (e : Int) (w : World) (hb : Blk w bx 73 #[.pointer (some ⟨r, 0, none⟩)]) (h : RdQ Q w r L e) :
    Calls Try.prog 71 #[.pointer (some ⟨bx, 0, none⟩)] w (TextQ Q w r (rd.piece L e 100).1 (rd.piece L e 100).2.1 (rd.piece L e 100).2.2) := by
  have hp := rdq.text Q r L e 100 w h
  obtain ⟨⟨M, L1, e1⟩, hq⟩ : ∃ q, rd.piece L e 100 = q := ⟨_, rfl⟩
  rw [hq] at hp ⊢
  dsimp only at hp ⊢
  have c0 := hb.cell 0 (v := .pointer (some ⟨r, 0, none⟩)) rfl
  have bl := hb.lt
  have HP := Lib.hid hp; clear hp hq h
  go_enter Try.func71, Try.ntmps71
  go_wp2_with (go_at_call 63; refine HP.out.mono ?_; rintro en w1 ⟨rfl, h1, h2⟩; have HR := Lib.hid (And.intro h1 h2); clear h1 h2)
  go_ret
  exact ⟨rfl, HR.out.1, HR.out.2⟩
set_option maxHeartbeats 4000000 in
theorem pa.list_any (Q : Nat → Prop) (most : Int) (bx r : Nat) (L : List Nat) (e : Int) (w : World) (hm : 0 ≤ most ∧ most ≤ 1000) (hb : Blk w bx 73 #[.pointer (some ⟨r, 0, none⟩)]) (h : RdQ Q w r L e) (hQ : ∀ k, Q k → k < w.heap.size) :
    Calls Try.prog 65 #[.pointer (some ⟨r, 0, none⟩), .int .i64 most, .func (.func 71) #[] #[.pointer (some ⟨bx, 0, none⟩)]] w fun en w' => (∃ v, en = .returned (.tuple #[v, .int .i64 (pq.list most L e).2.2]) ∧
      w'.ownsRow w.heap.size 9 1 v (pq.list most L e).1.length ((pq.list most L e).1.map fun s => .string s)) ∧ ((pq.list most L e).2.2 = 0 → RdQ Q w' r (pq.list most L e).2.1 0) ∧ Chg w w' (rdT r) := by
  have hnum := rdq.num Q r L e w h
  have hz := @rd.num_zero L e
  have hbr : bx ≠ r := by
    rintro rfl
    obtain ⟨cs, h'⟩ := h.blk
    have := (show w.heap[bx]? = _ from hb).symm.trans h'
    simp at this
  obtain ⟨q0, hq0⟩ : ∃ q, q = pq.list most L e := ⟨_, rfl⟩
  rw [← hq0]
  unfold pq.list at hq0
  obtain ⟨⟨n, L1, e1⟩, hq⟩ : ∃ q, rd.num L e = q := ⟨_, rfl⟩
  rw [hq] at hnum hz hq0
  dsimp only at hnum hz hq0
  clear hq h
  obtain ⟨i0, hi0, hz0, hz1, hz2⟩ := info_parts pq.infoStr
  have HI := Lib.hid (And.intro hi0 (And.intro hz0 (And.intro hz1 hz2))); clear hi0 hz0 hz1 hz2
  have HN := Lib.hid (And.intro hnum (And.intro hb hq0)); clear hnum hb hq0
  have HBR := Lib.hid hbr; clear hbr
  have HQW := Lib.hid hQ; clear hQ
  by_cases hbad : e1 = 0 ∧ (n < 0 ∨ most < n)
  · obtain ⟨rfl, hbad⟩ := hbad
    have hq0 := HN.out.2.2
    rw [if_pos ⟨rfl, hbad⟩] at hq0
    subst hq0
    clear hz
    have hc : decide (n < 0) = true ∨ (decide (n < 0) = false ∧ decide (most < n) = true) := by simp only [decide_eq_true_eq, decide_eq_false_iff_not]; omega
    clear hbad
    rcases hc with d1 | ⟨d1, d2⟩
    all_goals
      go_enter Try.func65, Try.ntmps65
      go_wp2_with (first
        | (go_at_call 60; refine (rdq.err H2.out.1).mono ?_; rintro en w1' ⟨rfl, h3⟩; subst h3)
        | (go_at_call 64; refine HN.out.1.mono ?_; rintro en w1 ⟨rfl, h1, h2⟩; have H2 := Lib.hid (And.intro h1 h2); clear h1 h2))
      go_ret2
      exact ⟨⟨_, rfl, World.ownsRow_nil _ _ _ _⟩, fun h => absurd h (by decide), H2.out.2⟩
  · obtain ⟨k, rfl, hk⟩ : ∃ k : Nat, n = (k : Int) ∧ k ≤ 1000 := by
      by_cases h0 : e1 = 0
      · exact ⟨n.toNat, by omega, by omega⟩
      · exact ⟨0, hz h0, by omega⟩
    clear hz
    have hq0 := HN.out.2.2
    rw [if_neg hbad, Int.toNat_natCast] at hq0
    have HQ0 := Lib.hid hq0; clear hq0
    go_enter Try.func65, Try.ntmps65
    go_upto_region 2 with (go_at_call 64; refine HN.out.1.mono ?_; rintro en w1 ⟨rfl, h1, h2⟩; have H2 := Lib.hid (And.intro h1 h2); clear h1 h2)
    go_cut [23] from 10 (fun s23 wx => s23 = .bool false ∧ w1 = wx)
    case first =>
      by_cases h0 : e1 = 0
      · subst h0
        have d1 : decide ((k : Int) < 0) = false := decide_eq_false (by omega)
        have d2 : decide (most < (k : Int)) = false := decide_eq_false (fun h => hbad ⟨rfl, .inr h⟩)
        clear hbad
        go_wp2_with (go_at_call 60; refine (rdq.err H2.out.1).mono ?_; rintro en w1' ⟨rfl, h3⟩; subst h3)
        go_meet
        case rel => exact ⟨rfl, rfl⟩
      · have d1 : (e1 == 0) = false := by simp [h0]
        clear hbad h0
        go_wp2_with (go_at_call 60; refine (rdq.err H2.out.1).mono ?_; rintro en w1' ⟨rfl, h3⟩; subst h3)
        go_meet
        case rel => exact ⟨rfl, rfl⟩
    case rest =>
      obtain ⟨rfl, rfl⟩ := hcut
      clear hbad
      go_wp2_with fail
      go_loopw [9, 25] (fun l i wx => ∃ (j : Nat) (ns : List ByteArray) (Lj : List Nat) (ej : Int), j ≤ k ∧ i = .int .i64 (j : Int) ∧ ns.length = j ∧ rd.texts k L1 e1 = (ns ++ (rd.texts (k - j) Lj ej).1, (rd.texts (k - j) Lj ej).2) ∧ wx.ownsRow w.heap.size 9 1 l j (ns.map fun s => .string s) ∧ RdQ Q wx r Lj ej ∧ Chg w wx (rdT r)) (fun _ i _ => k - (intOf i).toNat)
      case atStart => exact ⟨0, [], L1, e1, by omega, rfl, rfl, by simp, World.ownsRow_nil _ _ _ _, H2.out.1, H2.out.2⟩
      case round =>
        obtain ⟨j, ns, Lj, ej, hj, rfl, hns, htx, hown, hrd, hcw⟩ := hrel
        obtain ⟨Al, cl, rfl, -, -⟩ := own_at hown
        by_cases hlt : j < k
        · have hlt' : (j : Int) < (k : Int) := by omega
          have hclos := pa.clos_any _ bx r Lj ej wr (hcw.blk HN.out.2.1 HBR.out) hrd
          rw [show k - j = (k - (j + 1)) + 1 by omega] at htx
          rw [rd.texts] at htx
          obtain ⟨⟨Pj, Lj1, ej1⟩, hpj⟩ : ∃ q, rd.piece Lj ej 100 = q := ⟨_, rfl⟩
          rw [hpj] at htx hclos
          dsimp only at htx hclos
          clear hpj
          obtain ⟨s, hs⟩ : ∃ s, s = strOf Pj := ⟨_, rfl⟩
          unfold TextQ at hclos
          rw [← hs] at htx hclos
          clear hs
          have hrow : (Value.slice Al j cl).ownBlock ≠ some r := by
            obtain ⟨cs, hb⟩ := hrd.blk
            exact hb.not_row (by decide) hown
          have HJ := Lib.hid (And.intro hclos (And.intro hns (And.intro htx (And.intro hown (And.intro hcw hrow))))); clear hclos hns htx hown hcw hrow hrd
          go_wp2_with fail
          refine HJ.out.1.mono ?_
          rintro en w4 ⟨rfl, hr4, hc4⟩
          obtain ⟨wa, hwa⟩ : ∃ wa, wa = w4.alloc (.cells #[.string s] 9) := ⟨_, rfl⟩
          have hba : Below w4.heap.size w4 wa := by rw [hwa]; exact (Below.refl _ _).alloc (Nat.le_refl _) _
          have howna : wa.ownsRow w.heap.size 9 1 (.slice Al j cl) j (ns.map fun s => .string s) := (chg_of (P := fun _ => False) hba).own (hc4.own HJ.out.2.2.2.1 fun q hq e => HJ.out.2.2.2.2.2 (by rw [hq, show q = r from e])) fun _ _ q => q
          have hra := hr4.keep hba
          have hcwa : Chg w wa (rdT r) := (HJ.out.2.2.2.2.1.trans hc4 fun _ _ q => q).trans (chg_of (P := fun _ => False) hba) fun _ _ q => q.elim
          have hcell := pq.new_one w4 (.string s) 9 w4.heap.size rfl
          have happ : ∀ v2 w9, w9.ownsRow w.heap.size 9 1 v2 (j + 1) ((ns.map fun s => .string s) ++ [.string s]) → wa.grownBy w9 (Value.slice Al j cl).ownBlock → w9.ownsRow w.heap.size 9 1 v2 (j + 1) ((ns ++ [s]).map fun s => .string s) ∧ RdQ Q w9 r Lj1 ej1 ∧ Chg w w9 (rdT r) := fun v2 w9 h1 h2 =>
            ⟨by rw [List.map_append]; exact h1, hra.chg (Chg.grown h2) HJ.out.2.2.2.2.2 fun q hq e => by have h1 := (howna.lt q e).1; have h2 := HQW.out q hq; omega, hcwa.trans (Chg.grown h2) fun q hq e => absurd (howna.lt q e).1 (Nat.not_le.2 hq)⟩
          have hszw : w.heap.size ≤ wa.heap.size := hcwa.size
          have HAPP := Lib.hid (And.intro happ (And.intro howna (And.intro hcell (And.intro hwa hszw)))); clear happ howna hcell hwa hszw hba hra hcwa hr4 hc4
          go_wp2_with (at_builtin; rw [← HAPP.out.2.2.2.1]; refine wpList_append_own_at _ rfl (.tmp 27) (.tmp 30) 22 rfl w.heap.size 9 i0 _ 1 16 Try.underlying22 HI.out.1 HI.out.2.1 HI.out.2.2.1 HI.out.2.2.2 rfl (by decide) (.slice Al j cl) j (ns.map fun s => .string s) rfl HAPP.out.2.1 ⟨w4.heap.size, 0, none⟩ 1 1 [.string s] rfl rfl (by rw [HAPP.out.2.2.2.1]; exact HAPP.out.2.2.1) (by simp [Value.oneCell']) (by unfold maxLen; omega) (by omega) HAPP.out.2.2.2.2 ?_; intro v2 w9 h1 h2 _ h3; have HN9 := Lib.hid (HAPP.out.1 v2 w9 h1 h2); clear h1 h2 h3)
          go_wp2_with fail
          go_roundw
          case rel => exact ⟨j + 1, ns ++ [s], Lj1, ej1, by omega, by go_num, by rw [List.length_append, HJ.out.2.1]; rfl, by rw [HJ.out.2.2.1, List.append_assoc]; rfl, HN9.out.1, HN9.out.2.1, HN9.out.2.2⟩
          case measure => simp [intOf]; omega
        · obtain rfl : k = j := by omega
          rw [Nat.sub_self] at htx
          have hq1 : q0 = (ns, Lj, ej) := by rw [HQ0.out, htx]; simp [rd.texts]
          subst hq1
          have HF := Lib.hid (And.intro hns (And.intro hown (And.intro hrd hcw))); clear hns hown hrd hcw htx hlt HQ0
          go_wp2_with (go_at_call 60; refine (rdq.err HF.out.2.2.1).mono ?_; rintro en w1' ⟨rfl, h3⟩; subst h3)
          go_ret2
          exact ⟨⟨_, rfl, by dsimp only; rw [HF.out.1]; exact HF.out.2.1⟩, fun h => by have h : ej = 0 := h; subst h; exact HF.out.2.2.1, HF.out.2.2.2⟩
end
section
open Go.RowKit

/-- What bytes are as an answer: the answer, an error. -/
def pa.dec (L : List Nat) : PAns × Int :=
  let a := rd.fixed L 0 4
  let b := rd.fixed a.2.1 a.2.2 2
  let c := rd.num b.2.1 b.2.2
  let d := rd.num c.2.1 c.2.2
  let f := rd.num d.2.1 d.2.2
  let g := rd.piece f.2.1 f.2.2 100
  let h := rd.piece g.2.1 g.2.2 100
  let k := pq.list 1000 h.2.1 h.2.2
  if k.2.2 ≠ 0 then (⟨a.1, b.1, c.1, d.1, f.1, strOf g.1, strOf h.1, [], [], []⟩, k.2.2) else
  let m := pa.list 1000 k.2.1 0
  if m.2.2 ≠ 0 then (⟨a.1, b.1, c.1, d.1, f.1, strOf g.1, strOf h.1, [], [], []⟩, m.2.2) else
  let l := rd.piece m.2.1 0 131072
  (⟨a.1, b.1, c.1, d.1, f.1, strOf g.1, strOf h.1, k.1, m.1, l.1⟩, if 0 < l.2.1.length then 2 else l.2.2)
theorem rd.ints_put : ∀ (l : List Int) (Z : List Nat), (∀ s ∈ l, pq.int s) → rd.ints l.length (pa.nums l ++ Z) 0 = (l, Z, 0)
  | [], Z, _ => rfl
  | s :: l, Z, h => by
    have h1 := h s (by simp)
    have h2 := rd.ints_put l Z fun x hx => h x (by simp [hx])
    have e : pa.nums (s :: l) ++ Z = num.put s ++ (pa.nums l ++ Z) := by
      show (num.put s ++ pa.nums l) ++ Z = _
      rw [List.append_assoc]
    rw [List.length_cons, rd.ints, e, rd.num_put s _ h1.1 h1.2]
    dsimp only
    rw [h2]
theorem pa.list_put (l : List Int) (Z : List Nat) (most : Int) (hl : (l.length : Int) ≤ most) (hl2 : l.length ≤ 1000000) (hs : ∀ s ∈ l, pq.int s) : pa.list most (num.put l.length ++ (pa.nums l ++ Z)) 0 = (l, Z, 0) := by
  unfold pa.list
  rw [rd.num_put (l.length : Int) (pa.nums l ++ Z) (by omega) (by omega)]
  dsimp only
  rw [if_neg (by omega), Int.toNat_natCast]
  exact rd.ints_put l Z hs
theorem pa.dec_put (r : PAns) (Z : List Nat) (hf : r.fit) (hi : ∀ s ∈ r.nums, pq.int s) (hc : pa.check r = 0) : pa.dec (pa.bytes r ++ Z) = (r, if 0 < Z.length then 2 else 0) := by
  obtain ⟨⟨hr1, hr2⟩, ⟨hk1, hk2⟩, hl4, hn30, hln, hm, hd6⟩ := pa.check_ok hc
  obtain ⟨⟨-, -, io, il, ig⟩, -⟩ := hf
  unfold pq.int at io il ig
  have hs4 := pq.long_no hl4
  have hsn := pq.long_no hln
  have s2 := hs4 r.member (by simp)
  have s3 := hs4 r.leader (by simp)
  unfold pa.dec pa.bytes
  simp only [List.append_assoc, List.nil_append]
  have f1 := rd.fixed_be r.corr.toNat 4
  have f2 := rd.fixed_be r.code.toNat 2
  rw [show ((4 : Nat) : Int) = 4 from rfl, Int.toNat_of_nonneg (by omega)] at f1
  rw [show ((2 : Nat) : Int) = 2 from rfl, Int.toNat_of_nonneg (by omega)] at f2
  rw [f1 _ (by unfold wire.fit; simp; omega) (by omega)]
  dsimp only
  rw [f2 _ (by unfold wire.fit; simp; omega) (by omega)]
  dsimp only
  rw [rd.num_put r.off _ io.1 io.2]
  dsimp only
  rw [rd.num_put r.last _ il.1 il.2]
  dsimp only
  rw [rd.num_put r.gen _ ig.1 ig.2]
  dsimp only
  rw [rd.piece_text r.member _ 100 (by omega) (by omega)]
  dsimp only
  rw [rd.piece_text r.leader _ 100 (by omega) (by omega)]
  dsimp only
  rw [pq.list_put r.names _ 1000 (by omega) (by omega) hsn]
  dsimp only
  rw [if_neg (by simp), pa.list_put r.nums _ 1000 (by omega) (by omega) hi]
  dsimp only
  rw [if_neg (by simp), rd.piece_put r.data Z 131072 (by omega) (by omega)]
  dsimp only
  rw [strOf_strNats, strOf_strNats]
end
section
open Go.RowKit Go.Maps
set_option maxRecDepth 20000
def pa.zero : Array Value := #[.int .i64 0, .int .i64 0, .int .i64 0, .int .i64 0, .int .i64 0, .string (ByteArray.mk #[]), .string (ByteArray.mk #[]), .slice none 0 0, .slice none 0 0, .slice none 0 0]
theorem pa.infoAns : (Try.prog.info? 41).map (·.size) = some 10 := by kernel_rfl
/-- Under way: the box of the reader's place, the result's cells, the answer's, the reader. -/
structure pa.Dst (w v : World) (r b0 b1 b2 : Nat) (cs : Array Value) (L : List Nat) (e : Int) : Prop where
  p : Blk v b0 73 #[.pointer (some ⟨r, 0, none⟩)]
  q : Blk v b1 41 cs
  z : Blk v b2 41 pa.zero
  rd : RdQ (fun k => k < w.heap.size) v r L e
  chg : Chg w v (rdT r)
  low : r < w.heap.size ∧ w.heap.size ≤ b0 ∧ w.heap.size ≤ b1 ∧ w.heap.size ≤ b2 ∧ b0 ≠ b1 ∧ b1 ≠ b2 ∧ b0 ≠ b2
theorem pa.Dst.call {w v v1 : World} {r b0 b1 b2 : Nat} {cs : Array Value} {L L1 : List Nat} {e e1 : Int} (h : pa.Dst w v r b0 b1 b2 cs L e) (h1 : RdQ (fun k => k < w.heap.size) v1 r L1 e1) (h2 : Chg v v1 (rdT r)) : pa.Dst w v1 r b0 b1 b2 cs L1 e1 := by
  have hl := h.low
  have hn : ∀ b, w.heap.size ≤ b → ¬ rdT r b := fun b hb e => by have e : b = r := e; omega
  exact ⟨h2.blk h.p (hn _ hl.2.1), h2.blk h.q (hn _ hl.2.2.1), h2.blk h.z (hn _ hl.2.2.2.1), h1, h.chg.trans h2 fun _ _ q => q, hl⟩
theorem pa.Dst.store {w v : World} {r b0 b1 b2 : Nat} {cs : Array Value} {L : List Nat} {e : Int} (h : pa.Dst w v r b0 b1 b2 cs L e) (i : Nat) (x : Value) : pa.Dst w (v.setCell ⟨b1, i, none⟩ x) r b0 b1 b2 (cs.setIfInBounds i x) L e := by
  obtain ⟨l1, l2, l3, l4, l5, l6, l7⟩ := h.low
  have hc := Chg.setCell v b1 i x
  exact ⟨hc.blk h.p l5, h.q.set i x, hc.blk h.z fun e => l6 e.symm, h.rd.chg hc (fun e => by have e : r = b1 := e; omega) fun k hk e => by have e : k = b1 := e; omega, h.chg.trans hc fun k hk e => by have e : k = b1 := e; omega, h.low⟩
theorem rd.ints_bd : ∀ (k : Nat) (L : List Nat) (e : Int), ∀ s ∈ (rd.ints k L e).1, pq.int s
  | 0, _, _, s, h => by cases h
  | k + 1, L, e, s, h => by
    rw [rd.ints] at h
    rcases List.mem_cons.1 h with rfl | h
    · exact rd.num_bd L e
    · exact rd.ints_bd k _ _ s h
theorem pa.list_bd {most : Int} {L : List Nat} {e : Int} : ∀ s ∈ (pa.list most L e).1, pq.int s := by
  intro s hs
  unfold pa.list at hs
  split at hs
  · cases hs
  · exact rd.ints_bd _ _ _ s hs
theorem rd.ints_rest : ∀ (k : Nat) (L : List Nat) (e : Int), (rd.ints k L e).2.1.length ≤ L.length
  | 0, _, _ => Nat.le_refl _
  | k + 1, L, e => Nat.le_trans (rd.ints_rest k _ _) (rd.num_le L e)
theorem pa.list_rest (most : Int) (L : List Nat) (e : Int) : (pa.list most L e).2.1.length ≤ L.length := by
  have h := rd.num_le L e
  unfold pa.list
  split
  · exact h
  · exact Nat.le_trans (rd.ints_rest _ _ _) h
theorem pa.intsV {w : World} {B n c : Nat} {A : Option Addr} {l : List Int} (h : w.ownsRow B 3 1 (.slice A n c) n (l.map fun s => .int .i64 s)) (hl : l.length = n) (hs : ∀ s ∈ l, pq.int s) : IntsV w (.slice A l.length c) l := by
  subst hl
  obtain ⟨A9, c9, e9, hc, hat⟩ := own_at h
  obtain ⟨rfl, rfl⟩ : A = A9 ∧ c = c9 := by injection e9 with e1 e2 e3; exact ⟨e1, e3⟩
  rw [Nat.mul_one] at hat
  exact ⟨A, c, rfl, hat.congr fun j hj => by simp [List.getD, hj], hc, own_cap h, hs⟩
theorem pa.zero_one : pa.zero.size = 10 ∧ pa.zero.all (fun v => v.oneCell') = true := ⟨rfl, by simp [Value.oneCell', pa.zero]⟩

/-- What decodeAnswer answers. -/
def pa.DecPost (L : List Nat) (r : Nat) (w : World) (en : Ending) (w' : World) : Prop :=
  (∃ cs : Array Value, en = .returned (.tuple #[.agg cs, .int .i64 (pa.dec L).2]) ∧ (cs.size = 10 ∧ cs.all (fun v => v.oneCell') = true) ∧
    ((pa.dec L).2 = 0 → ∃ An cn Am cm Ad cd, cs = (pa.dec L).1.cells An cn Am cm Ad cd ∧ AnsV w' An cn Am cm Ad cd (pa.dec L).1 ∧ (∀ b off, An = some ⟨b, off, none⟩ → w.heap.size ≤ b) ∧ (∀ b off, Am = some ⟨b, off, none⟩ → w.heap.size ≤ b) ∧ ∀ b off, Ad = some ⟨b, off, none⟩ → w.heap.size ≤ b)) ∧ Chg w w' (rdT r)
set_option maxHeartbeats 8000000 in
theorem pa.decode_any (r : Nat) (L : List Nat) (w : World) (h : RdQ (fun k => k < w.heap.size) w r L 0) (hL : L.length ≤ 140737488351232) :
    Calls Try.prog 49 #[.pointer (some ⟨r, 0, none⟩)] w (pa.DecPost L r w) := by
  unfold pa.DecPost
  obtain ⟨R, hR⟩ : ∃ R, R = pa.dec L := ⟨_, rfl⟩
  rw [← hR]
  have hrw : r < w.heap.size := by obtain ⟨cs, hb⟩ := h.blk; exact hb.lt
  obtain ⟨b0, hb0⟩ : ∃ b, b = w.heap.size := ⟨_, rfl⟩
  obtain ⟨w3, hw3⟩ : ∃ w3, w3 = ((w.alloc (.cells #[.pointer (some ⟨r, 0, none⟩)] 73)).alloc (.cells pa.zero 41)).alloc (.cells pa.zero 41) := ⟨_, rfl⟩
  have hst : pa.Dst w w3 r b0 (b0 + 2) (b0 + 1) #[.int .i64 0, .int .i64 0, .int .i64 0, .int .i64 0, .int .i64 0, .string (ByteArray.mk #[]), .string (ByteArray.mk #[]), .slice none 0 0, .slice none 0 0, .slice none 0 0] L 0 := by
    rw [hw3, hb0]
    have a1 := Blk.new w 73 #[.pointer (some ⟨r, 0, none⟩)]
    have a2 := Blk.new (w.alloc (.cells #[.pointer (some ⟨r, 0, none⟩)] 73)) 41 pa.zero
    have a3 := Blk.new ((w.alloc (.cells #[.pointer (some ⟨r, 0, none⟩)] 73)).alloc (.cells pa.zero 41)) 41 pa.zero
    rw [World.size_alloc] at a2 a3
    rw [World.size_alloc] at a3
    have c1 := Chg.alloc w (.cells #[.pointer (some ⟨r, 0, none⟩)] 73) (fun _ => False)
    have c2 := Chg.alloc (w.alloc (.cells #[.pointer (some ⟨r, 0, none⟩)] 73)) (.cells pa.zero 41) (fun _ => False)
    have c3 := Chg.alloc ((w.alloc (.cells #[.pointer (some ⟨r, 0, none⟩)] 73)).alloc (.cells pa.zero 41)) (.cells pa.zero 41) (fun _ => False)
    have c123 := (c1.trans c2 fun _ _ q => q).trans c3 fun _ _ q => q
    exact ⟨c3.blk (c2.blk a1 fun q => q) fun q => q, a3, c3.blk a2 fun q => q, h.chg c123 (fun q => q) fun _ _ q => q, c123.mono fun _ _ q => q.elim, by omega, by omega, by omega, by omega, by omega, by omega, by omega⟩
  have HLL := Lib.hid hL; clear hL
  have HR := Lib.hid hR; clear hR
  clear h
  have hmf : ∀ (fn : Fn) (first cap : Array Value) (w : World), (Instr.makeFunc fn first cap).run Try.prog w = .ok (.func fn first cap) w := fun _ _ _ _ => rfl
  go_enter Try.func49, Try.ntmps49
  go_upto_region 2 with fail
  unfold pa.zero at hw3
  rw [← hw3, ← hb0]
  have D0 := Lib.hid hst; clear hst hw3 hb0
  have hcall0 := rdq.fixed _ r L 0 4 w3 D0.out.rd
  have hbd0 := rd.fixed_bd (e := 0) D0.out.rd 4 (by omega)
  obtain ⟨⟨x0, L0, e0⟩, hq0⟩ : ∃ q, rd.fixed L 0 4 = q := ⟨_, rfl⟩
  rw [show ((4 : Nat) : Int) = 4 from rfl] at hbd0
  rw [hq0] at hcall0 hbd0
  dsimp only at hcall0 hbd0
  unfold RqPost at hcall0
  have HC0 := Lib.hid (And.intro hcall0 (And.intro hq0 (show pq.int x0 by unfold pq.int; omega))); clear hcall0 hq0 hbd0
  have k0 := D0.out.p.cell 0 (v := .pointer (some ⟨r, 0, none⟩)) rfl
  have kl := D0.out.p.lt
  go_upto_region 3 with (go_at_call 40; refine HC0.out.1.mono ?_; rintro en u0 ⟨rfl, h1, h2⟩; have C0 := Lib.hid (D0.out.call h1 h2); clear h1 h2; have m0 := C0.out.q.cell 0 (v := .int .i64 0) rfl; have m1 := C0.out.q.frozen 0; have m2 := C0.out.q.lt)
  clear k0 kl m0 m1 m2
  obtain ⟨v0, hv0⟩ : ∃ v, v = u0.setCell ⟨b0 + 2, 0, none⟩ (.int .i64 x0) := ⟨_, rfl⟩
  rw [← hv0]
  have hd0 : pa.Dst w v0 r b0 (b0 + 2) (b0 + 1) #[.int .i64 x0, .int .i64 0, .int .i64 0, .int .i64 0, .int .i64 0, .string (ByteArray.mk #[]), .string (ByteArray.mk #[]), .slice none 0 0, .slice none 0 0, .slice none 0 0] L0 e0 := by rw [hv0]; exact C0.out.store 0 _
  have D1 := Lib.hid hd0; clear hd0 hv0 C0 D0
  have hcall1 := rdq.fixed _ r L0 e0 2 v0 D1.out.rd
  have hbd1 := rd.fixed_bd (e := e0) D1.out.rd 2 (by omega)
  obtain ⟨⟨x1, L1, e1⟩, hq1⟩ : ∃ q, rd.fixed L0 e0 2 = q := ⟨_, rfl⟩
  rw [show ((2 : Nat) : Int) = 2 from rfl] at hbd1
  rw [hq1] at hcall1 hbd1
  dsimp only at hcall1 hbd1
  unfold RqPost at hcall1
  have HC1 := Lib.hid (And.intro hcall1 (And.intro hq1 (show pq.int x1 by unfold pq.int; omega))); clear hcall1 hq1 hbd1
  have k0 := D1.out.p.cell 0 (v := .pointer (some ⟨r, 0, none⟩)) rfl
  have kl := D1.out.p.lt
  go_upto_region 4 with (go_at_call 40; refine HC1.out.1.mono ?_; rintro en u1 ⟨rfl, h1, h2⟩; have C1 := Lib.hid (D1.out.call h1 h2); clear h1 h2; have m0 := C1.out.q.cell 1 (v := .int .i64 0) rfl; have m1 := C1.out.q.frozen 1; have m2 := C1.out.q.lt)
  clear k0 kl m0 m1 m2
  obtain ⟨v1, hv1⟩ : ∃ v, v = u1.setCell ⟨b0 + 2, 1, none⟩ (.int .i64 x1) := ⟨_, rfl⟩
  rw [← hv1]
  have hd1 : pa.Dst w v1 r b0 (b0 + 2) (b0 + 1) #[.int .i64 x0, .int .i64 x1, .int .i64 0, .int .i64 0, .int .i64 0, .string (ByteArray.mk #[]), .string (ByteArray.mk #[]), .slice none 0 0, .slice none 0 0, .slice none 0 0] L1 e1 := by rw [hv1]; exact C1.out.store 1 _
  have D2 := Lib.hid hd1; clear hd1 hv1 C1 D1
  have hcall2 := rdq.num _ r L1 e1 v1 D2.out.rd
  have hbd2 := rd.num_bd L1 e1
  obtain ⟨⟨x2, L2, e2⟩, hq2⟩ : ∃ q, rd.num L1 e1 = q := ⟨_, rfl⟩
  rw [hq2] at hcall2 hbd2
  dsimp only at hcall2 hbd2
  unfold RqPost at hcall2
  have HC2 := Lib.hid (And.intro hcall2 (And.intro hq2 hbd2)); clear hcall2 hq2 hbd2
  have k0 := D2.out.p.cell 0 (v := .pointer (some ⟨r, 0, none⟩)) rfl
  have kl := D2.out.p.lt
  go_upto_region 5 with (go_at_call 64; refine HC2.out.1.mono ?_; rintro en u2 ⟨rfl, h1, h2⟩; have C2 := Lib.hid (D2.out.call h1 h2); clear h1 h2; have m0 := C2.out.q.cell 2 (v := .int .i64 0) rfl; have m1 := C2.out.q.frozen 2; have m2 := C2.out.q.lt)
  clear k0 kl m0 m1 m2
  obtain ⟨v2, hv2⟩ : ∃ v, v = u2.setCell ⟨b0 + 2, 2, none⟩ (.int .i64 x2) := ⟨_, rfl⟩
  rw [← hv2]
  have hd2 : pa.Dst w v2 r b0 (b0 + 2) (b0 + 1) #[.int .i64 x0, .int .i64 x1, .int .i64 x2, .int .i64 0, .int .i64 0, .string (ByteArray.mk #[]), .string (ByteArray.mk #[]), .slice none 0 0, .slice none 0 0, .slice none 0 0] L2 e2 := by rw [hv2]; exact C2.out.store 2 _
  have D3 := Lib.hid hd2; clear hd2 hv2 C2 D2
  have hcall3 := rdq.num _ r L2 e2 v2 D3.out.rd
  have hbd3 := rd.num_bd L2 e2
  obtain ⟨⟨x3, L3, e3⟩, hq3⟩ : ∃ q, rd.num L2 e2 = q := ⟨_, rfl⟩
  rw [hq3] at hcall3 hbd3
  dsimp only at hcall3 hbd3
  unfold RqPost at hcall3
  have HC3 := Lib.hid (And.intro hcall3 (And.intro hq3 hbd3)); clear hcall3 hq3 hbd3
  have k0 := D3.out.p.cell 0 (v := .pointer (some ⟨r, 0, none⟩)) rfl
  have kl := D3.out.p.lt
  go_upto_region 6 with (go_at_call 64; refine HC3.out.1.mono ?_; rintro en u3 ⟨rfl, h1, h2⟩; have C3 := Lib.hid (D3.out.call h1 h2); clear h1 h2; have m0 := C3.out.q.cell 3 (v := .int .i64 0) rfl; have m1 := C3.out.q.frozen 3; have m2 := C3.out.q.lt)
  clear k0 kl m0 m1 m2
  obtain ⟨v3, hv3⟩ : ∃ v, v = u3.setCell ⟨b0 + 2, 3, none⟩ (.int .i64 x3) := ⟨_, rfl⟩
  rw [← hv3]
  have hd3 : pa.Dst w v3 r b0 (b0 + 2) (b0 + 1) #[.int .i64 x0, .int .i64 x1, .int .i64 x2, .int .i64 x3, .int .i64 0, .string (ByteArray.mk #[]), .string (ByteArray.mk #[]), .slice none 0 0, .slice none 0 0, .slice none 0 0] L3 e3 := by rw [hv3]; exact C3.out.store 3 _
  have D4 := Lib.hid hd3; clear hd3 hv3 C3 D3
  have hcall4 := rdq.num _ r L3 e3 v3 D4.out.rd
  have hbd4 := rd.num_bd L3 e3
  obtain ⟨⟨x4, L4, e4⟩, hq4⟩ : ∃ q, rd.num L3 e3 = q := ⟨_, rfl⟩
  rw [hq4] at hcall4 hbd4
  dsimp only at hcall4 hbd4
  unfold RqPost at hcall4
  have HC4 := Lib.hid (And.intro hcall4 (And.intro hq4 hbd4)); clear hcall4 hq4 hbd4
  have k0 := D4.out.p.cell 0 (v := .pointer (some ⟨r, 0, none⟩)) rfl
  have kl := D4.out.p.lt
  go_upto_region 7 with (go_at_call 64; refine HC4.out.1.mono ?_; rintro en u4 ⟨rfl, h1, h2⟩; have C4 := Lib.hid (D4.out.call h1 h2); clear h1 h2; have m0 := C4.out.q.cell 4 (v := .int .i64 0) rfl; have m1 := C4.out.q.frozen 4; have m2 := C4.out.q.lt)
  clear k0 kl m0 m1 m2
  obtain ⟨v4, hv4⟩ : ∃ v, v = u4.setCell ⟨b0 + 2, 4, none⟩ (.int .i64 x4) := ⟨_, rfl⟩
  rw [← hv4]
  have hd4 : pa.Dst w v4 r b0 (b0 + 2) (b0 + 1) #[.int .i64 x0, .int .i64 x1, .int .i64 x2, .int .i64 x3, .int .i64 x4, .string (ByteArray.mk #[]), .string (ByteArray.mk #[]), .slice none 0 0, .slice none 0 0, .slice none 0 0] L4 e4 := by rw [hv4]; exact C4.out.store 4 _
  have D5 := Lib.hid hd4; clear hd4 hv4 C4 D4
  have hcall5 := rdq.text _ r L4 e4 100 v4 D5.out.rd
  obtain ⟨⟨X5, L5, e5⟩, hq5⟩ : ∃ q, rd.piece L4 e4 100 = q := ⟨_, rfl⟩
  rw [hq5] at hcall5
  dsimp only at hcall5
  unfold TextQ at hcall5
  obtain ⟨x5, hx5⟩ : ∃ x, x = strOf X5 := ⟨_, rfl⟩
  rw [← hx5] at hcall5
  have hlen5 : x5.size ≤ 100 := by
    rw [hx5, strOf_size]
    have h1 := rd.piece_len (L := L4) (e := e4) (most := 100) (by omega)
    rw [hq5] at h1
    dsimp only at h1
    omega
  have HC5 := Lib.hid (And.intro hcall5 (And.intro hq5 (And.intro hx5 hlen5))); clear hcall5 hq5 hx5 hlen5
  have k0 := D5.out.p.cell 0 (v := .pointer (some ⟨r, 0, none⟩)) rfl
  have kl := D5.out.p.lt
  go_upto_region 8 with (go_at_call 63; refine HC5.out.1.mono ?_; rintro en u5 ⟨rfl, h1, h2⟩; have C5 := Lib.hid (D5.out.call h1 h2); clear h1 h2; have m0 := C5.out.q.cell 5 (v := .string (ByteArray.mk #[])) rfl; have m1 := C5.out.q.frozen 5; have m2 := C5.out.q.lt)
  clear k0 kl m0 m1 m2
  obtain ⟨v5, hv5⟩ : ∃ v, v = u5.setCell ⟨b0 + 2, 5, none⟩ (.string x5) := ⟨_, rfl⟩
  rw [← hv5]
  have hd5 : pa.Dst w v5 r b0 (b0 + 2) (b0 + 1) #[.int .i64 x0, .int .i64 x1, .int .i64 x2, .int .i64 x3, .int .i64 x4, .string x5, .string (ByteArray.mk #[]), .slice none 0 0, .slice none 0 0, .slice none 0 0] L5 e5 := by rw [hv5]; exact C5.out.store 5 _
  have D6 := Lib.hid hd5; clear hd5 hv5 C5 D5
  have hcall6 := rdq.text _ r L5 e5 100 v5 D6.out.rd
  obtain ⟨⟨X6, L6, e6⟩, hq6⟩ : ∃ q, rd.piece L5 e5 100 = q := ⟨_, rfl⟩
  rw [hq6] at hcall6
  dsimp only at hcall6
  unfold TextQ at hcall6
  obtain ⟨x6, hx6⟩ : ∃ x, x = strOf X6 := ⟨_, rfl⟩
  rw [← hx6] at hcall6
  have hlen6 : x6.size ≤ 100 := by
    rw [hx6, strOf_size]
    have h1 := rd.piece_len (L := L5) (e := e5) (most := 100) (by omega)
    rw [hq6] at h1
    dsimp only at h1
    omega
  have HC6 := Lib.hid (And.intro hcall6 (And.intro hq6 (And.intro hx6 hlen6))); clear hcall6 hq6 hx6 hlen6
  have k0 := D6.out.p.cell 0 (v := .pointer (some ⟨r, 0, none⟩)) rfl
  have kl := D6.out.p.lt
  go_upto_region 9 with (go_at_call 63; refine HC6.out.1.mono ?_; rintro en u6 ⟨rfl, h1, h2⟩; have C6 := Lib.hid (D6.out.call h1 h2); clear h1 h2; have m0 := C6.out.q.cell 6 (v := .string (ByteArray.mk #[])) rfl; have m1 := C6.out.q.frozen 6; have m2 := C6.out.q.lt)
  clear k0 kl m0 m1 m2
  obtain ⟨v6, hv6⟩ : ∃ v, v = u6.setCell ⟨b0 + 2, 6, none⟩ (.string x6) := ⟨_, rfl⟩
  rw [← hv6]
  have hd6 : pa.Dst w v6 r b0 (b0 + 2) (b0 + 1) #[.int .i64 x0, .int .i64 x1, .int .i64 x2, .int .i64 x3, .int .i64 x4, .string x5, .string x6, .slice none 0 0, .slice none 0 0, .slice none 0 0] L6 e6 := by rw [hv6]; exact C6.out.store 6 _
  have D7 := Lib.hid hd6; clear hd6 hv6 C6 D6
  have hlist := pa.list_any (fun k => k < w.heap.size) 1000 b0 r L6 e6 v6 (by omega) D7.out.p D7.out.rd (fun k hk => Nat.lt_of_lt_of_le hk D7.out.chg.size)
  obtain ⟨⟨ns, L7, e7⟩, hq7⟩ : ∃ q, pq.list 1000 L6 e6 = q := ⟨_, rfl⟩
  rw [hq7] at hlist
  dsimp only at hlist
  have HL := Lib.hid (And.intro hlist hq7); clear hlist hq7
  have k0 := D7.out.p.cell 0 (v := .pointer (some ⟨r, 0, none⟩)) rfl
  have kl := D7.out.p.lt
  go_upto_region 10 with (go_at_call 65; refine HL.out.1.mono ?_; rintro en u7 ⟨⟨vn, rfl, h1⟩, h2, h3⟩; have C7 := Lib.hid (And.intro h1 (And.intro h2 h3)); clear h1 h2 h3)
  clear k0 kl
  have hb1r : ¬ rdT r (b0 + 1) := fun e => by have e : b0 + 1 = r := e; have := D7.out.low; omega
  have hb2r : ¬ rdT r (b0 + 2) := fun e => by have e : b0 + 2 = r := e; have := D7.out.low; omega
  have hRx : ∀ (m : List Int × List Nat × Int) (l : List Nat × List Nat × Int), m = pa.list 1000 L7 0 → l = rd.piece m.2.1 0 131072 → R = if e7 ≠ 0 then (⟨x0, x1, x2, x3, x4, x5, x6, [], [], []⟩, e7) else if m.2.2 ≠ 0 then (⟨x0, x1, x2, x3, x4, x5, x6, [], [], []⟩, m.2.2) else (⟨x0, x1, x2, x3, x4, x5, x6, ns, m.1, l.1⟩, if 0 < l.2.1.length then 2 else l.2.2) := fun m l hm hl => by
    subst hm
    subst hl
    rw [HR.out, HC5.out.2.2.1, HC6.out.2.2.1]
    unfold pa.dec
    simp only [HC0.out.2.1, HC1.out.2.1, HC2.out.2.1, HC3.out.2.1, HC4.out.2.1, HC5.out.2.1, HC6.out.2.1, HL.out.2]
  have HRX := Lib.hid hRx; clear hRx
  have hL7 : L7.length ≤ 140737488351232 := by
    have l0 := rd.fixed_le L 0 4
    have l1 := rd.fixed_le L0 e0 2
    have l2 := rd.num_le L1 e1
    have l3 := rd.num_le L2 e2
    have l4 := rd.num_le L3 e3
    have l5 := rd.piece_rest L4 e4 100
    have l6 := rd.piece_rest L5 e5 100
    have l7 := pq.list_rest 1000 L6 e6
    rw [HC0.out.2.1] at l0
    rw [HC1.out.2.1] at l1
    rw [HC2.out.2.1] at l2
    rw [HC3.out.2.1] at l3
    rw [HC4.out.2.1] at l4
    rw [HC5.out.2.1] at l5
    rw [HC6.out.2.1] at l6
    rw [HL.out.2] at l7
    dsimp only at l0 l1 l2 l3 l4 l5 l6 l7
    have := HLL.out
    omega
  have HL7 := Lib.hid hL7; clear hL7
  have hone : (#[.int .i64 x0, .int .i64 x1, .int .i64 x2, .int .i64 x3, .int .i64 x4, .string x5, .string x6, .slice none 0 0, .slice none 0 0, .slice none 0 0] : Array Value).all (fun v => v.oneCell') = true := by simp [Value.oneCell']
  have HONE := Lib.hid hone; clear hone
  by_cases h7 : e7 = 0
  case neg =>
    have hR2 : R.2 = e7 := by rw [HRX.out _ _ rfl rfl, if_pos h7]
    have HE2 := Lib.hid (And.intro hR2 h7); clear hR2
    have d1 : (e7 == 0) = false := by simp [h7]
    have d2 : (e7 != 0) = true := by simp [h7]
    clear h7
    have hz := C7.out.2.2.blk D7.out.z hb1r
    have hq := C7.out.2.2.blk D7.out.q hb2r
    have HZ := Lib.hid (And.intro hz hq); clear hz hq
    go_wp2_with (first
      | (show Go.wpList _ _ _ (⟨_, .load _ (.tmp 4), _, _, _, _⟩ :: _) _ _; refine wpList_load_row rfl 41 (.tmp 4) rfl (b0 + 2) rfl 41 #[.int .i64 x0, .int .i64 x1, .int .i64 x2, .int .i64 x3, .int .i64 x4, .string x5, .string x6, .slice none 0 0, .slice none 0 0, .slice none 0 0] (0, 0) _ HZ.out.2 Try.underlying41 rfl pa.infoAns ?_)
      | (show Go.wpList _ _ _ (⟨_, .store _ (.tmp 2) (.tmp 37), _, _, _, _⟩ :: _) _ _; refine wpList_store_row rfl 41 (.tmp 2) (.tmp 37) rfl (b0 + 1) #[.int .i64 x0, .int .i64 x1, .int .i64 x2, .int .i64 x3, .int .i64 x4, .string x5, .string x6, .slice none 0 0, .slice none 0 0, .slice none 0 0] rfl rfl 41 _ HZ.out.1 pa.infoAns rfl HONE.out ?_))
    have hz9 := pq.blk_row HZ.out.1 #[.int .i64 x0, .int .i64 x1, .int .i64 x2, .int .i64 x3, .int .i64 x4, .string x5, .string x6, .slice none 0 0, .slice none 0 0, .slice none 0 0]
    have hc9 := pq.chg_row u7 (b0 + 1) #[.int .i64 x0, .int .i64 x1, .int .i64 x2, .int .i64 x3, .int .i64 x4, .string x5, .string x6, .slice none 0 0, .slice none 0 0, .slice none 0 0]
    generalize u7.setRow (b0 + 1) #[.int .i64 x0, .int .i64 x1, .int .i64 x2, .int .i64 x3, .int .i64 x4, .string x5, .string x6, .slice none 0 0, .slice none 0 0, .slice none 0 0] = w9 at *
    refine bodyPost_ret (res_cell2 rfl _ _ (b0 + 1) #[.int .i64 x0, .int .i64 x1, .int .i64 x2, .int .i64 x3, .int .i64 x4, .string x5, .string x6, .slice none 0 0, .slice none 0 0, .slice none 0 0] _ rfl hz9 Try.underlying41 rfl pa.infoAns) rfl ?_
    exact ⟨⟨#[.int .i64 x0, .int .i64 x1, .int .i64 x2, .int .i64 x3, .int .i64 x4, .string x5, .string x6, .slice none 0 0, .slice none 0 0, .slice none 0 0], by rw [HE2.out.1]; rfl, ⟨rfl, HONE.out⟩, fun h => absurd (HE2.out.1.symm.trans h) HE2.out.2⟩, (D7.out.chg.trans C7.out.2.2 fun _ _ q => q).trans hc9 fun k hk q => by have q : k = b0 + 1 := q; have := D7.out.low; omega⟩
  subst h7
  obtain ⟨nn, hnn⟩ : ∃ n, n = ns.length := ⟨_, rfl⟩
  have hown := C7.out.1
  rw [← hnn] at hown
  obtain ⟨An, cn, rfl, hnc, -⟩ := own_at hown
  have hd8 := D7.out.call (C7.out.2.1 rfl) C7.out.2.2
  have hown := ownsRow_base hown D7.out.chg.size
  have D8 := Lib.hid (And.intro hd8 (And.intro hown hnn)); clear hd8 hown hnn D7 C7
  have hne : ∀ {T e : TypeId} {cs : Array Value} {v : World} {b : Nat} {n c base : Nat} {A : Option Addr} {xs : List Value}, Blk v b T cs → T ≠ e → v.ownsRow base e 1 (.slice A n c) n xs → ∀ k, (Value.slice A n c).ownBlock = some k → k ≠ b := fun hb hT ho k hk e => by subst e; exact hb.not_row hT ho hk
  have hilist := pa.ilist_any (fun k => k < w.heap.size) 1000 r L7 0 u7 (by omega) D8.out.1.rd (fun k hk => Nat.lt_of_lt_of_le hk D8.out.1.chg.size)
  obtain ⟨⟨is, L8, e8⟩, hq8⟩ : ∃ q, pa.list 1000 L7 0 = q := ⟨_, rfl⟩
  rw [hq8] at hilist
  dsimp only at hilist
  have hL8 : L8.length ≤ 140737488351232 := by
    have l8 := pa.list_rest 1000 L7 0
    rw [hq8] at l8
    dsimp only at l8
    have := HL7.out
    omega
  have HI := Lib.hid (And.intro hilist (And.intro hq8 hL8)); clear hilist hq8 hL8
  have k0 := D8.out.1.p.cell 0 (v := .pointer (some ⟨r, 0, none⟩)) rfl
  have kl := D8.out.1.p.lt
  go_upto_region 13 with (go_at_call 72; refine HI.out.1.mono ?_; rintro en u8 ⟨⟨vi, rfl, h1⟩, h2, h3⟩; have C8 := Lib.hid (And.intro h1 (And.intro h2 h3)); clear h1 h2 h3)
  clear k0 kl hmf
  by_cases h8 : e8 = 0
  case neg =>
    have hR2 : R.2 = e8 := by rw [HRX.out _ _ rfl rfl, if_neg (by simp), HI.out.2.1, if_pos h8]
    have HE2 := Lib.hid (And.intro hR2 h8); clear hR2
    have d1 : (e8 == 0) = false := by simp [h8]
    have d2 : (e8 != 0) = true := by simp [h8]
    clear h8
    have hz := C8.out.2.2.blk D8.out.1.z hb1r
    have hq := C8.out.2.2.blk D8.out.1.q hb2r
    have HZ := Lib.hid (And.intro hz hq); clear hz hq
    go_wp2_with (first
      | (show Go.wpList _ _ _ (⟨_, .load _ (.tmp 4), _, _, _, _⟩ :: _) _ _; refine wpList_load_row rfl 41 (.tmp 4) rfl (b0 + 2) rfl 41 #[.int .i64 x0, .int .i64 x1, .int .i64 x2, .int .i64 x3, .int .i64 x4, .string x5, .string x6, .slice none 0 0, .slice none 0 0, .slice none 0 0] (0, 0) _ HZ.out.2 Try.underlying41 rfl pa.infoAns ?_)
      | (show Go.wpList _ _ _ (⟨_, .store _ (.tmp 2) (.tmp 48), _, _, _, _⟩ :: _) _ _; refine wpList_store_row rfl 41 (.tmp 2) (.tmp 48) rfl (b0 + 1) #[.int .i64 x0, .int .i64 x1, .int .i64 x2, .int .i64 x3, .int .i64 x4, .string x5, .string x6, .slice none 0 0, .slice none 0 0, .slice none 0 0] rfl rfl 41 _ HZ.out.1 pa.infoAns rfl HONE.out ?_))
    have hz9 := pq.blk_row HZ.out.1 #[.int .i64 x0, .int .i64 x1, .int .i64 x2, .int .i64 x3, .int .i64 x4, .string x5, .string x6, .slice none 0 0, .slice none 0 0, .slice none 0 0]
    have hc9 := pq.chg_row u8 (b0 + 1) #[.int .i64 x0, .int .i64 x1, .int .i64 x2, .int .i64 x3, .int .i64 x4, .string x5, .string x6, .slice none 0 0, .slice none 0 0, .slice none 0 0]
    generalize u8.setRow (b0 + 1) #[.int .i64 x0, .int .i64 x1, .int .i64 x2, .int .i64 x3, .int .i64 x4, .string x5, .string x6, .slice none 0 0, .slice none 0 0, .slice none 0 0] = w9 at *
    refine bodyPost_ret (res_cell2 rfl _ _ (b0 + 1) #[.int .i64 x0, .int .i64 x1, .int .i64 x2, .int .i64 x3, .int .i64 x4, .string x5, .string x6, .slice none 0 0, .slice none 0 0, .slice none 0 0] _ rfl hz9 Try.underlying41 rfl pa.infoAns) rfl ?_
    exact ⟨⟨#[.int .i64 x0, .int .i64 x1, .int .i64 x2, .int .i64 x3, .int .i64 x4, .string x5, .string x6, .slice none 0 0, .slice none 0 0, .slice none 0 0], by rw [HE2.out.1]; rfl, ⟨rfl, HONE.out⟩, fun h => absurd (HE2.out.1.symm.trans h) HE2.out.2⟩, (D8.out.1.chg.trans C8.out.2.2 fun _ _ q => q).trans hc9 fun k hk q => by have q : k = b0 + 1 := q; have := D8.out.1.low; omega⟩
  subst h8
  obtain ⟨mm, hmm⟩ : ∃ n, n = is.length := ⟨_, rfl⟩
  have hiown := C8.out.1
  rw [← hmm] at hiown
  obtain ⟨Am, cm, rfl, hmc, -⟩ := own_at hiown
  have hiown := ownsRow_base hiown D8.out.1.chg.size
  have hd9 := D8.out.1.call (C8.out.2.1 rfl) C8.out.2.2
  have hnown : u8.ownsRow w.heap.size 9 1 (.slice An nn cn) nn (ns.map fun s => .string s) := C8.out.2.2.own D8.out.2.1 fun k hk e => by
    obtain ⟨cs, hb⟩ := D8.out.1.rd.blk
    exact hne hb (by decide) D8.out.2.1 k hk e
  have D9 := Lib.hid (And.intro hd9 (And.intro hnown (And.intro hiown (And.intro D8.out.2.2 hmm)))); clear hd9 hnown hiown hmm D8 C8
  have m0 := D9.out.1.q.cell 7 (v := .slice none 0 0) rfl
  have m1 := D9.out.1.q.frozen 7
  have m2 := D9.out.1.q.lt
  have hs9 := D9.out.1.store 7 (.slice An nn cn)
  have n0 := hs9.q.cell 8 (v := .slice none 0 0) rfl
  have n1 := hs9.q.frozen 8
  have n2 := hs9.q.lt
  have HS9 := Lib.hid hs9; clear hs9
  go_upto_region 16 with fail
  clear m0 m1 m2 n0 n1 n2
  obtain ⟨v9, hv9⟩ : ∃ v, v = (u8.setCell ⟨b0 + 2, 7, none⟩ (.slice An nn cn)).setCell ⟨b0 + 2, 8, none⟩ (.slice Am mm cm) := ⟨_, rfl⟩
  rw [← hv9]
  have hd11 : pa.Dst w v9 r b0 (b0 + 2) (b0 + 1) #[.int .i64 x0, .int .i64 x1, .int .i64 x2, .int .i64 x3, .int .i64 x4, .string x5, .string x6, .slice An nn cn, .slice Am mm cm, .slice none 0 0] L8 0 := by rw [hv9]; exact HS9.out.store 8 _
  have hcst : Chg u8 v9 (fun k => k = b0 + 2) := by rw [hv9]; exact (Chg.setCell u8 (b0 + 2) 7 _).trans (Chg.setCell _ (b0 + 2) 8 _) fun _ _ q => q
  have hnown := hcst.own D9.out.2.1 fun k hk e => hne D9.out.1.q (by decide) D9.out.2.1 k hk e
  have hiown := hcst.own D9.out.2.2.1 fun k hk e => hne D9.out.1.q (by decide) D9.out.2.2.1 k hk e
  have D11 := Lib.hid (And.intro hd11 (And.intro hnown hiown)); clear hd11 hnown hiown hv9 hcst HS9
  have hby := rdq.bytes _ r L8 0 131072 v9 D11.out.1.rd HI.out.2.2
  obtain ⟨⟨Xd, Ld, ed⟩, hqd⟩ : ∃ q, rd.piece L8 0 131072 = q := ⟨_, rfl⟩
  have hpm : ∀ x ∈ Xd, x < 256 := fun x hx => by
    obtain ⟨A, c, h, -⟩ := D11.out.1.rd
    exact h.byte x (by have := rd.piece_mem (L := L8) (e := 0) (most := 131072) x; rw [hqd] at this; exact this hx)
  have hR2 := HRX.out _ _ rfl rfl
  rw [HI.out.2.1] at hR2
  dsimp only at hR2
  rw [hqd] at hby hR2
  dsimp only at hby hR2
  rw [if_neg (by simp), if_neg (by simp)] at hR2
  unfold BytesQ at hby
  obtain ⟨E, hE⟩ : ∃ E : Int, E = if 0 < Ld.length then 2 else ed := ⟨_, rfl⟩
  rw [← hE] at hR2
  have HEE := Lib.hid hE; clear hE
  have HBY := Lib.hid (And.intro hby (And.intro hpm hR2)); clear hby hpm hR2 hqd
  have k0 := D11.out.1.p.cell 0 (v := .pointer (some ⟨r, 0, none⟩)) rfl
  have kl := D11.out.1.p.lt
  go_upto_region 17 with (go_at_call 67; refine HBY.out.1.mono ?_; rintro en u10 ⟨⟨vd, rfl, h1⟩, h2, h3⟩; obtain ⟨Ad, cd, rfl, -, -⟩ := own_at h1; have C10 := Lib.hid (And.intro h1 (And.intro (D11.out.1.call h2 h3) h3)); clear h1 h2 h3; have m0 := C10.out.2.1.q.cell 9 (v := .slice none 0 0) rfl; have m1 := C10.out.2.1.q.frozen 9; have m2 := C10.out.2.1.q.lt)
  clear k0 kl m0 m1 m2
  obtain ⟨v10, hv10⟩ : ∃ v, v = u10.setCell ⟨b0 + 2, 9, none⟩ (.slice Ad Xd.length cd) := ⟨_, rfl⟩
  rw [← hv10]
  have hd12 : pa.Dst w v10 r b0 (b0 + 2) (b0 + 1) #[.int .i64 x0, .int .i64 x1, .int .i64 x2, .int .i64 x3, .int .i64 x4, .string x5, .string x6, .slice An nn cn, .slice Am mm cm, .slice Ad Xd.length cd] Ld ed := by rw [hv10]; exact C10.out.2.1.store 9 _
  have hrdb : ∀ {T : TypeId} {n c : Nat} {A : Option Addr} {xs : List Value}, 98 ≠ T → v9.ownsRow w.heap.size T 1 (.slice A n c) n xs → u10.ownsRow w.heap.size T 1 (.slice A n c) n xs := fun hT h => C10.out.2.2.own h fun k hk e => by
    obtain ⟨cs, hb⟩ := D11.out.1.rd.blk
    exact hne hb hT h k hk e
  have hown1 : v10.ownsRow w.heap.size 9 1 (.slice An nn cn) nn (ns.map fun s => .string s) := by
    have h1 := hrdb (by decide) D11.out.2.1
    rw [hv10]
    exact (Chg.setCell u10 (b0 + 2) 9 _).own h1 fun k hk e => hne C10.out.2.1.q (by decide) h1 k hk e
  have hown2 : v10.ownsRow w.heap.size 3 1 (.slice Am mm cm) mm (is.map fun s => .int .i64 s) := by
    have h1 := hrdb (by decide) D11.out.2.2
    rw [hv10]
    exact (Chg.setCell u10 (b0 + 2) 9 _).own h1 fun k hk e => hne C10.out.2.1.q (by decide) h1 k hk e
  have hown3 : v10.ownsRow w.heap.size 5 1 (.slice Ad Xd.length cd) Xd.length (u8s Xd) := by
    have h1 := ownsRow_base C10.out.1 D11.out.1.chg.size
    rw [hv10]
    exact (Chg.setCell u10 (b0 + 2) 9 _).own h1 fun k hk e => hne C10.out.2.1.q (by decide) h1 k hk e
  have hdr : Chg v10 v10.drew (fun _ => False) := (Chg.refl _ _).drew
  have D12 := Lib.hid (And.intro hd12 (And.intro hown1 (And.intro hown2 (And.intro hown3 hdr)))); clear hd12 hown1 hown2 hown3 hdr hrdb hv10 C10 D11
  have z0 : ∀ x : Later v10 (fun k => k = b0 + 1), x.1.cell? ⟨b0 + 2, 0, none⟩ = some (.int .i64 x0) := fun x => (x.2.blk D12.out.1.q (by omega)).cell 0 rfl
  have z1 : ∀ x : Later v10 (fun k => k = b0 + 1), x.1.cell? ⟨b0 + 2, 1, none⟩ = some (.int .i64 x1) := fun x => (x.2.blk D12.out.1.q (by omega)).cell 1 rfl
  have z2 : ∀ x : Later v10 (fun k => k = b0 + 1), x.1.cell? ⟨b0 + 2, 2, none⟩ = some (.int .i64 x2) := fun x => (x.2.blk D12.out.1.q (by omega)).cell 2 rfl
  have z3 : ∀ x : Later v10 (fun k => k = b0 + 1), x.1.cell? ⟨b0 + 2, 3, none⟩ = some (.int .i64 x3) := fun x => (x.2.blk D12.out.1.q (by omega)).cell 3 rfl
  have z4 : ∀ x : Later v10 (fun k => k = b0 + 1), x.1.cell? ⟨b0 + 2, 4, none⟩ = some (.int .i64 x4) := fun x => (x.2.blk D12.out.1.q (by omega)).cell 4 rfl
  have z5 : ∀ x : Later v10 (fun k => k = b0 + 1), x.1.cell? ⟨b0 + 2, 5, none⟩ = some (.string x5) := fun x => (x.2.blk D12.out.1.q (by omega)).cell 5 rfl
  have z6 : ∀ x : Later v10 (fun k => k = b0 + 1), x.1.cell? ⟨b0 + 2, 6, none⟩ = some (.string x6) := fun x => (x.2.blk D12.out.1.q (by omega)).cell 6 rfl
  have z7 : ∀ x : Later v10 (fun k => k = b0 + 1), x.1.cell? ⟨b0 + 2, 7, none⟩ = some (.slice An nn cn) := fun x => (x.2.blk D12.out.1.q (by omega)).cell 7 rfl
  have z8 : ∀ x : Later v10 (fun k => k = b0 + 1), x.1.cell? ⟨b0 + 2, 8, none⟩ = some (.slice Am mm cm) := fun x => (x.2.blk D12.out.1.q (by omega)).cell 8 rfl
  have z9 : ∀ x : Later v10 (fun k => k = b0 + 1), x.1.cell? ⟨b0 + 2, 9, none⟩ = some (.slice Ad Xd.length cd) := fun x => (x.2.blk D12.out.1.q (by omega)).cell 9 rfl
  have kd0 : v10.drew.cell? ⟨b0, 0, none⟩ = some (.pointer (some ⟨r, 0, none⟩)) := (D12.out.2.2.2.2.blk D12.out.1.p fun q => q).cell 0 rfl
  have kdl : b0 < v10.drew.heap.size := (D12.out.2.2.2.2.blk D12.out.1.p fun q => q).lt
  have zl : ∀ x : Later v10 (fun k => k = b0 + 1), b0 + 2 < x.1.heap.size := fun x => (x.2.blk D12.out.1.q (by omega)).lt
  have hrd : RdQ (fun k => k < w.heap.size) v10.drew r Ld ed := D12.out.1.rd.chg D12.out.2.2.2.2 (fun q => q) fun _ _ q => q
  have hz12 := D12.out.2.2.2.2.blk D12.out.1.z fun q => q
  have hend := pq.ended_any hrd
  rw [← HEE.out] at hend
  have HE := Lib.hid (And.intro hend hz12); clear hrd hz12 hend
  have hone : (#[.int .i64 x0, .int .i64 x1, .int .i64 x2, .int .i64 x3, .int .i64 x4, .string x5, .string x6, .slice An nn cn, .slice Am mm cm, .slice Ad Xd.length cd] : Array Value).all (fun v => v.oneCell') = true := by simp [Value.oneCell']
  have HONE2 := Lib.hid hone; clear hone
  have hS0 : later v10 (fun k => k = b0 + 1) v10.drew := later_of ((Chg.refl _ _).drew)
  refine wp_plan (S := fun w0 => ∃ x : Later v10 (fun k => k = b0 + 1), w0 = x.1) (by kernel_rfl) hS0 ?_
  intro hS' K5 hK5
  have HS := Lib.hid hS'; clear hS' hS0
  refine plan_group [true] [0] 4 (by dsimp only [sel]) (by rfl) rfl (by kernel_rfl) (by kernel_rfl) HS.out ?_
  (repeat go_big_quiet_step (fail)); refine wpQuiet_nil ?_
  clear z0 z1 z2 z3 z4 z5 z6 z7 z8 z9
  refine plan_one [false, true] 1 3 (by dsimp only [sel]) (by rfl) rfl (by kernel_rfl) ?_; intro K1 hK1; go_wp2_with fail
  refine ⟨by first | exact HS.out | exact fun _ => HS.out, ?_⟩
  refine plan_one [false, false, true] 2 2 (by dsimp only [sel]) (by rfl) rfl (by kernel_rfl) ?_; intro K2 hK2
  go_wp2_with (go_at_call 68; refine HE.out.1.mono ?_; rintro en wq ⟨rfl, h3⟩; subst h3)
  refine ⟨by first | exact HS.out | exact fun _ => HS.out, ?_⟩
  refine plan_one [false, false, false, true] 3 1 (by dsimp only [sel]) (by rfl) rfl (by kernel_rfl) ?_; intro K3 hK3
  go_wp2_with (show Go.wpList _ _ _ (⟨_, .store _ (.tmp 2) (.tmp 57), _, _, _, _⟩ :: _) _ _; go_loud (refine wpList_store_row rfl 41 (.tmp 2) (.tmp 57) rfl (b0 + 1) #[.int .i64 x0, .int .i64 x1, .int .i64 x2, .int .i64 x3, .int .i64 x4, .string x5, .string x6, .slice An nn cn, .slice Am mm cm, .slice Ad Xd.length cd] rfl rfl 41 pa.zero HE.out.2 pa.infoAns rfl HONE2.out ?_))
  obtain ⟨wz, hwz⟩ : ∃ wz, wz = v10.drew.setRow (b0 + 1) #[.int .i64 x0, .int .i64 x1, .int .i64 x2, .int .i64 x3, .int .i64 x4, .string x5, .string x6, .slice An nn cn, .slice Am mm cm, .slice Ad Xd.length cd] := ⟨_, rfl⟩
  rw [← hwz]
  have hcz : Chg v10 wz (fun k => k = b0 + 1) := by rw [hwz]; exact (D12.out.2.2.2.2.mono fun _ _ q => q.elim).trans (pq.chg_row _ _ _) fun _ _ q => q
  have hbz : Blk wz (b0 + 1) 41 #[.int .i64 x0, .int .i64 x1, .int .i64 x2, .int .i64 x3, .int .i64 x4, .string x5, .string x6, .slice An nn cn, .slice Am mm cm, .slice Ad Xd.length cd] := by rw [hwz]; exact pq.blk_row HE.out.2 _
  have HZ := Lib.hid (And.intro hcz hbz); clear hcz hbz hwz
  have hSz := later_of HZ.out.1
  refine ⟨by first | exact hSz | exact fun _ => hSz, ?_⟩
  go_simp
  refine plan_group [false, false, false, false, true] [4] 0 (by dsimp only [sel]) (by rfl) rfl (by kernel_rfl) (by kernel_rfl) hSz ?_
  (repeat go_big_quiet_step (fail)); refine wpQuiet_nil ?_
  refine wp_plan_end (by kernel_rfl) ?_
  refine hK5 _ _ ?_
  clear HS hSz
  go_wp2_with fail
  refine bodyPost_ret (res_cell2 rfl _ _ (b0 + 1) #[.int .i64 x0, .int .i64 x1, .int .i64 x2, .int .i64 x3, .int .i64 x4, .string x5, .string x6, .slice An nn cn, .slice Am mm cm, .slice Ad Xd.length cd] _ rfl HZ.out.2 Try.underlying41 rfl pa.infoAns) rfl ?_
  have hn1 := HZ.out.1.own D12.out.2.1 fun k hk e => hne D12.out.1.z (by decide) D12.out.2.1 k hk e
  have hn2 := HZ.out.1.own D12.out.2.2.1 fun k hk e => hne D12.out.1.z (by decide) D12.out.2.2.1 k hk e
  have hn3 := HZ.out.1.own D12.out.2.2.2.1 fun k hk e => hne D12.out.1.z (by decide) D12.out.2.2.2.1 k hk e
  have hcw : Chg w wz (rdT r) := D12.out.1.chg.trans HZ.out.1 fun k hk q => by have q : k = b0 + 1 := q; have := D12.out.1.low; omega
  have hRR := HBY.out.2.2
  have hnn := D9.out.2.2.2.1
  have hmm := D9.out.2.2.2.2
  refine ⟨⟨_, by rw [hRR]; rfl, ⟨rfl, HONE2.out⟩, fun _ => ⟨An, cn, Am, cm, Ad, cd, ?_, ?_, fun b off h => (hn1.lt b (by rw [h]; rfl)).1, fun b off h => (hn2.lt b (by rw [h]; rfl)).1, fun b off h => (hn3.lt b (by rw [h]; rfl)).1⟩⟩, hcw⟩
  · rw [hRR]
    unfold PAns.cells
    dsimp only
    rw [← hnn, ← hmm]
  · rw [hRR]
    refine ⟨⟨⟨HC0.out.2.2, HC1.out.2.2, HC2.out.2.2, HC3.out.2.2, HC4.out.2.2⟩, ?_, ?_⟩, ?_, ?_, ?_⟩
    · have := HC5.out.2.2.2; unfold maxLen; dsimp only; omega
    · have := HC6.out.2.2.2; unfold maxLen; dsimp only; omega
    · refine pq.strsV hn1 hnn.symm fun s hs => ?_
      have h1 := pq.list_size (most := 1000) (L := L6) (e := e6) s (by rw [HL.out.2]; exact hs)
      unfold maxLen
      omega
    · refine pa.intsV hn2 hmm.symm fun s hs => ?_
      exact pa.list_bd (most := 1000) (L := L7) (e := 0) s (by rw [HI.out.2.1]; exact hs)
    · obtain ⟨A9, c9, e9, h1, -, h2⟩ := own_bytes hn3
      obtain ⟨rfl, rfl⟩ : Ad = A9 ∧ cd = c9 := by injection e9 with e1 e2 e3; exact ⟨e1, e3⟩
      exact ⟨Ad, cd, rfl, h2, h1, own_cap hn3, HBY.out.2.1⟩
end
section
open Go.RowKit Go.Maps
set_option maxRecDepth 20000
def pa.no : PAns := ⟨0, 0, 0, 0, 0, ByteArray.mk #[], ByteArray.mk #[], [], [], []⟩
/-- What bytes are as an answer, as it is told. -/
def pa.read (L : List Nat) : PAns × Int := if (pa.dec L).2 ≠ 0 ∨ 2147483647 < (pa.dec L).1.corr then (pa.no, 2) else ((pa.dec L).1, 0)
def pa.ReadPost (L : List Nat) (w : World) (en : Ending) (w' : World) : Prop :=
  (∃ cs : Array Value, en = .returned (.tuple #[.agg cs, .int .i64 (pa.read L).2]) ∧ (cs.size = 10 ∧ cs.all (fun v => v.oneCell') = true) ∧ ((pa.read L).2 ≠ 0 → cs = pa.zero) ∧
    ((pa.read L).2 = 0 → ∃ An cn Am cm Ad cd, cs = (pa.read L).1.cells An cn Am cm Ad cd ∧ AnsV w' An cn Am cm Ad cd (pa.read L).1 ∧ (∀ b off, An = some ⟨b, off, none⟩ → w.heap.size ≤ b) ∧ (∀ b off, Am = some ⟨b, off, none⟩ → w.heap.size ≤ b) ∧ ∀ b off, Ad = some ⟨b, off, none⟩ → w.heap.size ≤ b)) ∧ Below w.heap.size w w'
theorem pa.ansV_chg {w w' : World} {P : Nat → Prop} {An Am Ad : Option Addr} {cn cm cd : Nat} {r : PAns} (h : AnsV w An cn Am cm Ad cd r) (hc : Chg w w' P) (h1 : ∀ b off, An = some ⟨b, off, none⟩ → ¬ P b) (h2 : ∀ b off, Am = some ⟨b, off, none⟩ → ¬ P b) (h3 : ∀ b off, Ad = some ⟨b, off, none⟩ → ¬ P b) : AnsV w' An cn Am cm Ad cd r := by
  obtain ⟨q1, ⟨A1, c1, q2, q3, q4⟩, ⟨A2, c2, q5, q6, q7⟩, ⟨A3, c3, q8, q9, q10⟩⟩ := h
  obtain ⟨rfl, rfl⟩ : An = A1 ∧ cn = c1 := by injection q2 with e1 e2 e3; exact ⟨e1, e3⟩
  obtain ⟨rfl, rfl⟩ : Am = A2 ∧ cm = c2 := by injection q5 with e1 e2 e3; exact ⟨e1, e3⟩
  obtain ⟨rfl, rfl⟩ : Ad = A3 ∧ cd = c3 := by injection q8 with e1 e2 e3; exact ⟨e1, e3⟩
  exact ⟨q1, ⟨An, cn, q2, hc.at' q3 fun hn b off hA hB => h1 b off hA hB, q4⟩, ⟨Am, cm, q5, hc.at' q6 fun hn b off hA hB => h2 b off hA hB, q7⟩, ⟨Ad, cd, q8, hc.at' q9 fun hn b off hA hB => h3 b off hA hB, q10⟩⟩
set_option maxHeartbeats 8000000 in
theorem pa.read_any (A : Option Addr) (c : Nat) (L : List Nat) (w : World) (hat : At w A L.length (byteAt L)) (h1 : L.length ≤ c) (h2 : c ≤ maxLen) (hb : ∀ x ∈ L, x < 256) (hL : L.length ≤ 140737488351232) (hA : ∀ a, A = some a → a.block < w.heap.size) :
    Calls Try.prog 19 #[.slice A L.length c] w (pa.ReadPost L w) := by
  unfold pa.ReadPost
  obtain ⟨b0, hb0⟩ : ∃ b, b = w.heap.size := ⟨_, rfl⟩
  obtain ⟨w0, hw0⟩ : ∃ w0, w0 = w.alloc (.cells pa.zero 41) := ⟨_, rfl⟩
  have hk0 : Blk w0 b0 41 pa.zero := by rw [hw0, hb0]; exact Blk.new _ _ _
  have hb00 : Below w.heap.size w w0 := by rw [hw0]; exact (Below.refl _ _).alloc (Nat.le_refl _) _
  have hbor := wire.borrow_at A c L w0 (hat.below hb00 (Nat.le_refl _)) h1 h2 hb
  have hcall : Calls Try.prog 39 #[.slice A L.length c] w0 fun en w1 => ∃ r, en = .returned (.pointer (some ⟨r, 0, none⟩)) ∧ (w0.heap.size ≤ r ∧ Below w0.heap.size w0 w1) ∧ Calls Try.prog 49 #[.pointer (some ⟨r, 0, none⟩)] w1 (pa.DecPost L r w1) := by
    refine hbor.mono ?_
    rintro en w' ⟨r, e, q1, q2, q3⟩
    exact ⟨r, e, ⟨q2, q3⟩, pa.decode_any r L w' ⟨A, c, q1, fun a ha => Nat.lt_of_lt_of_le (hA a ha) (Nat.le_trans hb00.size q3.size)⟩ hL⟩
  obtain ⟨n, hn⟩ : ∃ n, n = L.length := ⟨_, rfl⟩
  rw [← hn] at hcall ⊢
  obtain ⟨R, hR⟩ : ∃ R, R = pa.dec L := ⟨_, rfl⟩
  unfold pa.DecPost at hcall
  rw [← hR] at hcall
  have hrd : pa.read L = if R.2 ≠ 0 ∨ 2147483647 < R.1.corr then (pa.no, 2) else (R.1, 0) := by rw [hR]; rfl
  obtain ⟨S, hS⟩ : ∃ S, S = pa.read L := ⟨_, rfl⟩
  rw [← hS] at hrd ⊢
  have H0 := Lib.hid (And.intro hcall (And.intro hk0 (And.intro hb00 (And.intro hb0 hrd)))); clear hbor hcall hk0 hb00 hR hrd hS hat hb hA hL h1 h2 hn
  have hone : (pa.zero).all (fun v => v.oneCell') = true := pa.zero_one.2
  have H1Z := Lib.hid hone; clear hone
  by_cases he : R.2 = 0
  · have d1 : (R.2 == 0) = true := by simp [he]
    have d2 : (R.2 != 0) = false := by simp [he]
    have HEE := Lib.hid he; clear he
    go_enter Try.func19, Try.ntmps19
    go_upto_region 1 with fail
    unfold pa.zero at hw0
    rw [← hw0, ← hb0]
    clear hw0 hb0
    go_upto_region 2 with (first
      | (show Go.wpList _ _ _ (⟨_, .store _ (.tmp 4) (.tmp 10), _, _, _, _⟩ :: _) _ _; go_loud (refine wpList_store_row rfl 41 (.tmp 4) (.tmp 10) rfl w2.heap.size #[.int .i64 R.1.corr, .int .i64 R.1.code, .int .i64 R.1.off, .int .i64 R.1.last, .int .i64 R.1.gen, .string R.1.member, .string R.1.leader, .slice An R.1.names.length cn, .slice Am R.1.nums.length cm, .slice Ad R.1.data.length cd] rfl rfl 41 pa.zero (Blk.new w2 41 pa.zero) pa.infoAns rfl (by simp [Value.oneCell']) ?_))
      | (go_at_call 49; refine H1.out.2.mono ?_; rintro en w2 ⟨⟨cs, rfl, q1, q2⟩, q3⟩; obtain ⟨An, cn, Am, cm, Ad, cd, rfl, q4, q5⟩ := q2 HEE.out; unfold PAns.cells; have H2 := Lib.hid (And.intro q4 (And.intro q5 q3)); clear q1 q2 q3 q4 q5)
      | (go_at_call 39; refine H0.out.1.mono ?_; rintro en w1 ⟨r, rfl, q2, q3⟩; have H1 := Lib.hid (And.intro q2 q3); clear q2 q3))
    obtain ⟨b9, hb9⟩ : ∃ b, b = w2.heap.size := ⟨_, rfl⟩
    obtain ⟨w3, hw3⟩ : ∃ w3, w3 = (w2.alloc (.cells #[.int .i64 0, .int .i64 0, .int .i64 0, .int .i64 0, .int .i64 0, .string (ByteArray.mk #[]), .string (ByteArray.mk #[]), .slice none 0 0, .slice none 0 0, .slice none 0 0] 41)).setRow w2.heap.size #[.int .i64 R.1.corr, .int .i64 R.1.code, .int .i64 R.1.off, .int .i64 R.1.last, .int .i64 R.1.gen, .string R.1.member, .string R.1.leader, .slice An R.1.names.length cn, .slice Am R.1.nums.length cm, .slice Ad R.1.data.length cd] := ⟨_, rfl⟩
    rw [← hw3, ← hb9]
    have hk9 : Blk w3 b9 41 #[.int .i64 R.1.corr, .int .i64 R.1.code, .int .i64 R.1.off, .int .i64 R.1.last, .int .i64 R.1.gen, .string R.1.member, .string R.1.leader, .slice An R.1.names.length cn, .slice Am R.1.nums.length cm, .slice Ad R.1.data.length cd] := by rw [hw3, hb9]; exact pq.blk_row (Blk.new w2 41 pa.zero) _
    have hc23 : Chg w2 w3 (fun _ => False) := by
      rw [hw3]
      exact (Chg.alloc w2 _ (fun _ => False)).trans (pq.chg_row _ _ _) fun k hk q => absurd hk (by rw [show k = w2.heap.size from q]; exact Nat.lt_irrefl _)
    have hnr : ¬ rdT r b0 := fun e => by
      have e : b0 = r := e
      have h1 := H1.out.1.1
      have h2 := H0.out.2.1.lt
      omega
    have hk0 := hc23.blk (H2.out.2.2.blk ((chg_of (P := fun _ => False) H1.out.1.2).blk H0.out.2.1 fun q => q) hnr) fun q => q
    have hbw3 : Below w.heap.size w w3 := by
      have s0 := H0.out.2.2.1.size
      have s1 := H1.out.1.2.size
      have hA1 := H0.out.2.2.1.trans (H1.out.1.2.mono s0)
      have hA2 := hA1.trans (H2.out.2.2.below (by omega) fun k hk => by have hk : k = r := hk; have := H1.out.1.1; omega)
      exact hA2.trans (hc23.below hA2.size fun _ q => q.elim)
    have hv3 := pa.ansV_chg H2.out.1 hc23 (fun _ _ _ q => q) (fun _ _ _ q => q) (fun _ _ _ q => q)
    have hlow := H2.out.2.1
    have hwlow : w.heap.size ≤ w1.heap.size := Nat.le_trans H0.out.2.2.1.size H1.out.1.2.size
    have hb0lt : b0 < w1.heap.size := Nat.lt_of_lt_of_le H0.out.2.1.lt H1.out.1.2.size
    have y0 := hk9.cell 0 (v := .int .i64 R.1.corr) rfl
    have y1 := hk9.cell 1 (v := .int .i64 R.1.code) rfl
    have y2 := hk9.cell 2 (v := .int .i64 R.1.off) rfl
    have y3 := hk9.cell 3 (v := .int .i64 R.1.last) rfl
    have y4 := hk9.cell 4 (v := .int .i64 R.1.gen) rfl
    have y5 := hk9.cell 5 (v := .string R.1.member) rfl
    have y6 := hk9.cell 6 (v := .string R.1.leader) rfl
    have y7 := hk9.cell 7 (v := .slice An R.1.names.length cn) rfl
    have y8 := hk9.cell 8 (v := .slice Am R.1.nums.length cm) rfl
    have y9 := hk9.cell 9 (v := .slice Ad R.1.data.length cd) rfl
    have yl := hk9.lt
    have H6 := Lib.hid (And.intro hk0 (And.intro hv3 (And.intro hbw3 (And.intro hlow (And.intro hwlow (And.intro hb0lt H0.out.2.2.2.1)))))); clear hk9 hc23 hk0 hv3 hbw3 hlow hwlow hb0lt hw3 hb9
    by_cases hfar : 2147483647 < R.1.corr
    · have d3 : decide (2147483647 < R.1.corr) = true := decide_eq_true hfar
      have hS2 : S = (pa.no, 2) := by rw [H0.out.2.2.2.2, if_pos (.inr hfar)]
      have HS := Lib.hid hS2; clear hS2
      go_wp2_with (show Go.wpList _ _ _ (⟨_, .store _ (.tmp 2) (.tmp 19), _, _, _, _⟩ :: _) _ _; go_loud (refine wpList_store_row rfl 41 (.tmp 2) (.tmp 19) rfl b0 pa.zero rfl rfl 41 _ H6.out.1 pa.infoAns rfl H1Z.out ?_))
      have hz9 := pq.blk_row H6.out.1 pa.zero
      have hb9 : Below w.heap.size w (w3.setRow b0 pa.zero) := H6.out.2.2.1.trans ((pq.chg_row w3 b0 pa.zero).below H6.out.2.2.1.size fun k hk => by have hk : k = b0 := hk; have := H6.out.2.2.2.2.2.2; omega)
      generalize w3.setRow b0 pa.zero = w9 at *
      refine bodyPost_ret (res_cell2 rfl _ _ b0 pa.zero _ rfl hz9 Try.underlying41 rfl pa.infoAns) rfl ?_
      exact ⟨⟨pa.zero, by rw [HS.out]; rfl, (by first | exact pa.zero_one | simpa using pa.zero_one), fun _ => rfl, fun h => by rw [HS.out] at h; exact absurd h (by show ¬ ((2 : Int) = 0); decide)⟩, hb9⟩
    · have d3 : decide (2147483647 < R.1.corr) = false := decide_eq_false hfar
      have hS2 : S = (R.1, 0) := by rw [H0.out.2.2.2.2, if_neg (by intro h; rcases h with h | h; exact h HEE.out; exact hfar h)]
      have HS := Lib.hid hS2; clear hS2
      go_wp2_with (show Go.wpList _ _ _ (⟨_, .store _ (.tmp 2) (.tmp 20), _, _, _, _⟩ :: _) _ _; go_loud (refine wpList_store_row rfl 41 (.tmp 2) (.tmp 20) rfl b0 #[.int .i64 R.1.corr, .int .i64 R.1.code, .int .i64 R.1.off, .int .i64 R.1.last, .int .i64 R.1.gen, .string R.1.member, .string R.1.leader, .slice An R.1.names.length cn, .slice Am R.1.nums.length cm, .slice Ad R.1.data.length cd] rfl rfl 41 _ H6.out.1 pa.infoAns rfl (by simp [Value.oneCell']) ?_))
      have hz9 := pq.blk_row H6.out.1 #[.int .i64 R.1.corr, .int .i64 R.1.code, .int .i64 R.1.off, .int .i64 R.1.last, .int .i64 R.1.gen, .string R.1.member, .string R.1.leader, .slice An R.1.names.length cn, .slice Am R.1.nums.length cm, .slice Ad R.1.data.length cd]
      have hc9 := pq.chg_row w3 b0 #[.int .i64 R.1.corr, .int .i64 R.1.code, .int .i64 R.1.off, .int .i64 R.1.last, .int .i64 R.1.gen, .string R.1.member, .string R.1.leader, .slice An R.1.names.length cn, .slice Am R.1.nums.length cm, .slice Ad R.1.data.length cd]
      have hb9 : Below w.heap.size w (w3.setRow b0 #[.int .i64 R.1.corr, .int .i64 R.1.code, .int .i64 R.1.off, .int .i64 R.1.last, .int .i64 R.1.gen, .string R.1.member, .string R.1.leader, .slice An R.1.names.length cn, .slice Am R.1.nums.length cm, .slice Ad R.1.data.length cd]) := H6.out.2.2.1.trans (hc9.below H6.out.2.2.1.size fun k hk => by have hk : k = b0 := hk; have := H6.out.2.2.2.2.2.2; omega)
      have hv9 := pa.ansV_chg H6.out.2.1 hc9 (fun b off h q => by have q : b = b0 := q; have h1 := H6.out.2.2.2.1.1 b off h; have h2 := H6.out.2.2.2.2.2.1; omega) (fun b off h q => by have q : b = b0 := q; have h1 := H6.out.2.2.2.1.2.1 b off h; have h2 := H6.out.2.2.2.2.2.1; omega) (fun b off h q => by have q : b = b0 := q; have h1 := H6.out.2.2.2.1.2.2 b off h; have h2 := H6.out.2.2.2.2.2.1; omega)
      generalize w3.setRow b0 #[.int .i64 R.1.corr, .int .i64 R.1.code, .int .i64 R.1.off, .int .i64 R.1.last, .int .i64 R.1.gen, .string R.1.member, .string R.1.leader, .slice An R.1.names.length cn, .slice Am R.1.nums.length cm, .slice Ad R.1.data.length cd] = w9 at *
      refine bodyPost_ret (res_cell2 rfl _ _ b0 #[.int .i64 R.1.corr, .int .i64 R.1.code, .int .i64 R.1.off, .int .i64 R.1.last, .int .i64 R.1.gen, .string R.1.member, .string R.1.leader, .slice An R.1.names.length cn, .slice Am R.1.nums.length cm, .slice Ad R.1.data.length cd] _ rfl hz9 Try.underlying41 rfl pa.infoAns) rfl ?_
      have hl := H6.out.2.2.2.2.1
      exact ⟨⟨_, by rw [HS.out]; rfl, (by have hsz : (#[.int .i64 R.1.corr, .int .i64 R.1.code, .int .i64 R.1.off, .int .i64 R.1.last, .int .i64 R.1.gen, .string R.1.member, .string R.1.leader, .slice An R.1.names.length cn, .slice Am R.1.nums.length cm, .slice Ad R.1.data.length cd] : Array Value).size = 10 ∧ (#[.int .i64 R.1.corr, .int .i64 R.1.code, .int .i64 R.1.off, .int .i64 R.1.last, .int .i64 R.1.gen, .string R.1.member, .string R.1.leader, .slice An R.1.names.length cn, .slice Am R.1.nums.length cm, .slice Ad R.1.data.length cd] : Array Value).all (fun v => v.oneCell') = true := ⟨rfl, by simp [Value.oneCell']⟩; first | exact hsz | exact ⟨rfl, Array.all_eq_true.1 hsz.2⟩), fun h => by rw [HS.out] at h; exact absurd rfl h, fun _ => ⟨An, cn, Am, cm, Ad, cd, by rw [HS.out]; rfl, by rw [HS.out]; exact hv9, fun b off h => Nat.le_trans hl (H6.out.2.2.2.1.1 b off h), fun b off h => Nat.le_trans hl (H6.out.2.2.2.1.2.1 b off h), fun b off h => Nat.le_trans hl (H6.out.2.2.2.1.2.2 b off h)⟩⟩, hb9⟩
  · have d1 : (R.2 == 0) = false := by simp [he]
    have d2 : (R.2 != 0) = true := by simp [he]
    have hS2 : S = (pa.no, 2) := by rw [H0.out.2.2.2.2, if_pos (.inl he)]
    have HS := Lib.hid hS2; clear hS2
    have HEE := Lib.hid he; clear he
    go_enter Try.func19, Try.ntmps19
    go_upto_region 1 with fail
    unfold pa.zero at hw0
    rw [← hw0, ← hb0]
    have HB0 := Lib.hid hb0; clear hw0 hb0
    go_upto_region 2 with (first
      | (show Go.wpList _ _ _ (⟨_, .store _ (.tmp 4) (.tmp 10), _, _, _, _⟩ :: _) _ _; go_loud (refine wpList_store_row rfl 41 (.tmp 4) (.tmp 10) rfl w2.heap.size cs rfl rfl 41 pa.zero (Blk.new w2 41 pa.zero) (by rw [H2.out.1.1]; exact pa.infoAns) (by rw [H2.out.1.1]; rfl) H2.out.1.2 ?_))
      | (go_at_call 49; refine H1.out.2.mono ?_; rintro en w2 ⟨⟨cs, rfl, q1, q2⟩, q3⟩; have H2 := Lib.hid (And.intro q1 q3); clear q1 q2 q3)
      | (go_at_call 39; refine H0.out.1.mono ?_; rintro en w1 ⟨r, rfl, q2, q3⟩; have H1 := Lib.hid (And.intro q2 q3); clear q2 q3))
    obtain ⟨b9, hb9⟩ : ∃ b, b = w2.heap.size := ⟨_, rfl⟩
    obtain ⟨w3, hw3⟩ : ∃ w3, w3 = (w2.alloc (.cells #[.int .i64 0, .int .i64 0, .int .i64 0, .int .i64 0, .int .i64 0, .string (ByteArray.mk #[]), .string (ByteArray.mk #[]), .slice none 0 0, .slice none 0 0, .slice none 0 0] 41)).setRow w2.heap.size cs := ⟨_, rfl⟩
    rw [← hw3, ← hb9]
    have hc23 : Chg w2 w3 (fun _ => False) := by
      rw [hw3]
      exact (Chg.alloc w2 _ (fun _ => False)).trans (pq.chg_row _ _ _) fun k hk q => absurd hk (by rw [show k = w2.heap.size from q]; exact Nat.lt_irrefl _)
    have hnr : ¬ rdT r b0 := fun e => by
      have e : b0 = r := e
      have h1 := H1.out.1.1
      have h2 := H0.out.2.1.lt
      omega
    have hk0 := hc23.blk (H2.out.2.blk ((chg_of (P := fun _ => False) H1.out.1.2).blk H0.out.2.1 fun q => q) hnr) fun q => q
    have hbw3 : Below w.heap.size w w3 := by
      have s0 := H0.out.2.2.1.size
      have s1 := H1.out.1.2.size
      have hA1 := H0.out.2.2.1.trans (H1.out.1.2.mono s0)
      have hA2 := hA1.trans (H2.out.2.below (by omega) fun k hk => by have hk : k = r := hk; have := H1.out.1.1; omega)
      exact hA2.trans (hc23.below hA2.size fun _ q => q.elim)
    have H6 := Lib.hid (And.intro hk0 hbw3); clear hc23 hk0 hbw3 hw3 hb9
    go_wp2_with (show Go.wpList _ _ _ (⟨_, .store _ (.tmp 2) (.tmp 19), _, _, _, _⟩ :: _) _ _; go_loud (refine wpList_store_row rfl 41 (.tmp 2) (.tmp 19) rfl b0 pa.zero rfl rfl 41 _ H6.out.1 pa.infoAns rfl H1Z.out ?_))
    have hz9 := pq.blk_row H6.out.1 pa.zero
    have hb9 : Below w.heap.size w (w3.setRow b0 pa.zero) := H6.out.2.trans ((pq.chg_row w3 b0 pa.zero).below H6.out.2.size fun k hk => by have hk : k = b0 := hk; have := HB0.out; omega)
    generalize w3.setRow b0 pa.zero = w9 at *
    refine bodyPost_ret (res_cell2 rfl _ _ b0 pa.zero _ rfl hz9 Try.underlying41 rfl pa.infoAns) rfl ?_
    exact ⟨⟨pa.zero, by rw [HS.out]; rfl, (by first | exact pa.zero_one | simpa using pa.zero_one), fun _ => rfl, fun h => by rw [HS.out] at h; exact absurd h (by show ¬ ((2 : Int) = 0); decide)⟩, hb9⟩
end
end Go.Proofs.Ytimcpbbcealkiaa

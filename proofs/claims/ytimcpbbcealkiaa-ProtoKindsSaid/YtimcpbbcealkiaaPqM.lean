/- proto: Encode refuses what may not be; Encode of any request (chapter 20). -/
import Derived.BigQuiet
import Derived.Test.YtimcpbbcealkiaaPqF
namespace Go.Proofs.Ytimcpbbcealkiaa
open Go.RowKit
set_option maxRecDepth 20000
set_option maxHeartbeats 8000000 in
theorem pq.encode_bad (r : PReq) (An : Option Addr) (cn : Nat) (Ad : Option Addr) (cd : Nat) (w : World) (h : ReqV w An cn Ad cd r) (hck : pq.check r ≠ 0) :
    Calls Try.prog 10 #[.agg (r.cells An cn Ad cd)] w fun e w' => e = .returned (.tuple #[.slice none 0 0, .int .i64 (pq.check r)]) ∧ Below w.heap.size w w' := by
  obtain ⟨-, hnv, hdv⟩ := h
  obtain ⟨A1, c1, e1, hat, hac, hacm, -⟩ := hnv
  obtain ⟨rfl, rfl⟩ : An = A1 ∧ cn = c1 := by injection e1 with q1 q2 q3; exact ⟨q1, q3⟩
  have hdl : r.data.length ≤ maxLen := by obtain ⟨A2, c2, -, -, q1, q2, -⟩ := hdv; exact Nat.le_trans q1 q2
  clear e1 hdv
  obtain ⟨K, hK⟩ : ∃ K, K = pq.check r := ⟨_, rfl⟩
  rw [← hK] at hck ⊢
  unfold pq.check at hK
  obtain ⟨nn, hnn⟩ : ∃ n, n = r.names.length := ⟨_, rfl⟩
  obtain ⟨nd, hnd⟩ : ∃ n, n = r.data.length := ⟨_, rfl⟩
  obtain ⟨l4, hl4⟩ : ∃ b, b = pq.long [r.client, r.topic, r.group, r.member] := ⟨_, rfl⟩
  obtain ⟨ln, hln⟩ : ∃ b, b = pq.long r.names := ⟨_, rfl⟩
  unfold PReq.cells
  rw [← hnn, ← hnd]
  rw [← hnn, ← hnd, ← hl4, ← hln] at hK
  rw [← hnn] at hat hac
  rw [← hnd] at hdl
  unfold maxLen at hacm hdl
  obtain ⟨bx, hbx⟩ : ∃ b, b = w.heap.size := ⟨_, rfl⟩
  obtain ⟨w1, hw1⟩ : ∃ w1, w1 = w.alloc (.cells #[.int .i64 r.kind, .int .i64 r.corr, .string r.client, .string r.topic, .int .i64 r.part, .int .i64 r.off, .int .i64 r.time, .int .i64 r.most, .string r.group, .string r.member, .int .i64 r.gen, .slice An nn cn, .slice Ad nd cd] 25) := ⟨_, rfl⟩
  have hk1 : Blk w1 bx 25 #[.int .i64 r.kind, .int .i64 r.corr, .string r.client, .string r.topic, .int .i64 r.part, .int .i64 r.off, .int .i64 r.time, .int .i64 r.most, .string r.group, .string r.member, .int .i64 r.gen, .slice An nn cn, .slice Ad nd cd] := by rw [hw1, hbx]; exact Blk.new _ _ _
  have hb1 : Below w.heap.size w w1 := by rw [hw1]; exact (Below.refl _ _).alloc (Nat.le_refl _) _
  have h4 := pq.long_any [r.client, r.topic, r.group, r.member] (some ⟨w1.heap.size, 0, none⟩) 4 (w1.alloc (.cells #[.string r.client, .string r.topic, .string r.group, .string r.member] 9)) (pq.at_four w1 _ _ _ _ _) (by unfold maxLen; simp)
  rw [← hl4] at h4
  have hn : ∀ wx, Below w.heap.size w wx → Calls Try.prog 26 #[.slice An nn cn] wx fun e w' => e = .returned (.bool ln) ∧ Below wx.heap.size wx w' := fun wx hb => by
    have := pq.long_any r.names An cn wx (by rw [← hnn]; exact hat.below hb (Nat.le_refl _)) (by rw [← hnn]; unfold maxLen; omega)
    rw [← hln, ← hnn] at this
    exact this
  have hb4 : ∀ w2, Below (w1.heap.size + 1) (w1.alloc (.cells #[.string r.client, .string r.topic, .string r.group, .string r.member] 9)) w2 → Below w.heap.size w w2 ∧ Blk w2 bx 25 #[.int .i64 r.kind, .int .i64 r.corr, .string r.client, .string r.topic, .int .i64 r.part, .int .i64 r.off, .int .i64 r.time, .int .i64 r.most, .string r.group, .string r.member, .int .i64 r.gen, .slice An nn cn, .slice Ad nd cd] := fun w2 h => by
    have a1 : Below w1.heap.size w1 w2 := ((Below.refl w1.heap.size w1).alloc (Nat.le_refl _) _).trans (h.mono (by omega))
    exact ⟨hb1.trans (a1.mono hb1.size), (chg_of (P := fun _ => False) a1).blk hk1 fun q => q⟩
  have HA := Lib.hid (And.intro h4 (And.intro hn (And.intro hb4 (And.intro hb1 (And.intro hK hck))))); clear h4 hn hb4 hb1 hnn hnd hl4 hln hat hK hck
  have y0 := hk1.cell 0 (v := .int .i64 r.kind) rfl
  have y1 := hk1.cell 1 (v := .int .i64 r.corr) rfl
  have y2 := hk1.cell 2 (v := .string r.client) rfl
  have y3 := hk1.cell 3 (v := .string r.topic) rfl
  have y4 := hk1.cell 4 (v := .int .i64 r.part) rfl
  have y5 := hk1.cell 5 (v := .int .i64 r.off) rfl
  have y6 := hk1.cell 6 (v := .int .i64 r.time) rfl
  have y7 := hk1.cell 7 (v := .int .i64 r.most) rfl
  have y8 := hk1.cell 8 (v := .string r.group) rfl
  have y9 := hk1.cell 9 (v := .string r.member) rfl
  have y10 := hk1.cell 10 (v := .int .i64 r.gen) rfl
  have y11 := hk1.cell 11 (v := .slice An nn cn) rfl
  have y12 := hk1.cell 12 (v := .slice Ad nd cd) rfl
  have yl := hk1.lt
  have hk1' := Lib.hid hk1; clear hk1
  go_enter Try.func10, Try.ntmps10
  go_upto_region 1 with fail
  rw [← hw1, ← hbx]
  clear hw1 hbx
  by_cases k0 : r.kind < 1
  · have d0 : decide (r.kind < 1) = true := decide_eq_true k0
    have hR : K = 16 := by rw [HA.out.2.2.2.2.1, if_pos (.inl k0)]
    have HR := Lib.hid hR; clear hR
    go_wp2_with fail
    go_ret2
    exact ⟨by rw [HR.out]; rfl, HA.out.2.2.2.1⟩
  have d0 : decide (r.kind < 1) = false := decide_eq_false k0
  by_cases k1 : 14 < r.kind
  · have d1 : decide (14 < r.kind) = true := decide_eq_true k1
    have hR : K = 16 := by rw [HA.out.2.2.2.2.1, if_pos (.inr k1)]
    have HR := Lib.hid hR; clear hR
    go_wp2_with fail
    go_ret2
    exact ⟨by rw [HR.out]; rfl, HA.out.2.2.2.1⟩
  have d1 : decide (14 < r.kind) = false := decide_eq_false k1
  by_cases k2 : r.corr < 0
  · have d2 : decide (r.corr < 0) = true := decide_eq_true k2
    have hR : K = 1 := by rw [HA.out.2.2.2.2.1, if_neg (by omega), if_pos (.inl k2)]
    have HR := Lib.hid hR; clear hR
    go_wp2_with fail
    go_ret2
    exact ⟨by rw [HR.out]; rfl, HA.out.2.2.2.1⟩
  have d2 : decide (r.corr < 0) = false := decide_eq_false k2
  by_cases k3 : 2147483647 < r.corr
  · have d3 : decide (2147483647 < r.corr) = true := decide_eq_true k3
    have hR : K = 1 := by rw [HA.out.2.2.2.2.1, if_neg (by omega), if_pos (.inr k3)]
    have HR := Lib.hid hR; clear hR
    go_wp2_with fail
    go_ret2
    exact ⟨by rw [HR.out]; rfl, HA.out.2.2.2.1⟩
  have d3 : decide (2147483647 < r.corr) = false := decide_eq_false k3
  have hR : K = if l4 = true ∨ 30 < nn ∨ ln = true ∨ 65536 < nd then 3 else 0 := by rw [HA.out.2.2.2.2.1, if_neg (by omega), if_neg (by omega)]
  have HR := Lib.hid hR; clear hR
  cases l4 with
  | true =>
    have hR : K = 3 := by rw [HR.out, if_pos (.inl rfl)]
    have HR3 := Lib.hid hR; clear hR
    go_wp2_with (go_at_call 26; refine HA.out.1.mono ?_; rintro e w2 ⟨rfl, h1⟩; have H2 := Lib.hid (HA.out.2.2.1 w2 (by rw [World.size_alloc] at h1; exact h1)); clear h1)
    go_ret2
    exact ⟨by rw [HR3.out]; rfl, H2.out.1⟩
  | false =>
    go_upto_region 6 with (go_at_call 26; refine HA.out.1.mono ?_; rintro e w2 ⟨rfl, h1⟩; have H2 := Lib.hid (HA.out.2.2.1 w2 (by rw [World.size_alloc] at h1; exact h1)); clear h1)
    clear y0 y1 y2 y3 y4 y5 y6 y7 y8 y9 y10 y11 y12 yl
    have y11 := H2.out.2.cell 11 (v := .slice An nn cn) rfl
    have y12 := H2.out.2.cell 12 (v := .slice Ad nd cd) rfl
    have yl := H2.out.2.lt
    by_cases k4 : 30 < nn
    · have d4 : decide (30 < nn) = true := decide_eq_true k4
      have d4' : decide (30 < (nn : Int)) = true := decide_eq_true (by omega)
      have hR : K = 3 := by rw [HR.out, if_pos (.inr (.inl k4))]
      have HR3 := Lib.hid hR; clear hR
      go_wp2_with fail
      go_ret2
      exact ⟨by rw [HR3.out]; rfl, H2.out.1⟩
    have d4 : decide (30 < nn) = false := decide_eq_false k4
    have d4' : decide (30 < (nn : Int)) = false := decide_eq_false (by omega)
    have HN := Lib.hid (HA.out.2.1 w2 H2.out.1)
    cases ln with
    | true =>
      have hR : K = 3 := by rw [HR.out, if_pos (.inr (.inr (.inl rfl)))]
      have HR3 := Lib.hid hR; clear hR
      go_wp2_with (go_at_call 26; refine HN.out.mono ?_; rintro e w3 ⟨rfl, h1⟩; have H3 := Lib.hid (H2.out.1.trans (h1.mono H2.out.1.size)); clear h1)
      go_ret2
      exact ⟨by rw [HR3.out]; rfl, H3.out⟩
    | false =>
      go_upto_region 8 with (go_at_call 26; refine HN.out.mono ?_; rintro e w3 ⟨rfl, h1⟩; have H3 := Lib.hid (And.intro (H2.out.1.trans (h1.mono H2.out.1.size)) ((chg_of (P := fun _ => False) h1).blk H2.out.2 fun q => q)); clear h1)
      clear y11 y12 yl
      have y12 := H3.out.2.cell 12 (v := .slice Ad nd cd) rfl
      have yl := H3.out.2.lt
      by_cases k5 : 65536 < nd
      · have d5 : decide (65536 < nd) = true := decide_eq_true k5
        have d5' : decide (65536 < (nd : Int)) = true := decide_eq_true (by omega)
        have hR : K = 3 := by rw [HR.out, if_pos (.inr (.inr (.inr k5)))]
        have HR3 := Lib.hid hR; clear hR
        go_wp2_with fail
        go_ret2
        exact ⟨by rw [HR3.out]; rfl, H3.out.1⟩
      · exact absurd (by rw [HR.out, if_neg]; rintro (h | h | h | h); exact absurd h (by decide); exact k4 h; exact absurd h (by decide); exact k5 h) HA.out.2.2.2.2.2
/-- What Encode says of any request. -/
theorem pq.encode_any (r : PReq) (An : Option Addr) (cn : Nat) (Ad : Option Addr) (cd : Nat) (w : World) (h : ReqV w An cn Ad cd r) :
    Calls Try.prog 10 #[.agg (r.cells An cn Ad cd)] w fun e w' => (∃ v, e = .returned (.tuple #[v, .int .i64 (pq.check r)]) ∧ w'.ownsRow w.heap.size 5 1 v (if pq.check r = 0 then pq.bytes r else []).length (u8s (if pq.check r = 0 then pq.bytes r else []))) ∧ Below w.heap.size w w' := by
  by_cases h0 : pq.check r = 0
  · rw [if_pos h0, h0]
    exact pq.encode_ok r An cn Ad cd w h h0
  · rw [if_neg h0]
    refine (pq.encode_bad r An cn Ad cd w h h0).mono ?_
    rintro e w' ⟨rfl, hb⟩
    exact ⟨⟨_, rfl, World.ownsRow_nil _ _ _ _⟩, hb⟩
end Go.Proofs.Ytimcpbbcealkiaa

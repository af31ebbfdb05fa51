/- proto: how much an argument weighs (chapter 20). -/
import Derived.BigQuiet
import Derived.Deep.CutRange
import Derived.Test.YtimcpbbcealkiaaPqO
import Derived.Test.YtimcpbbcealkiaaAlikeB
namespace Go.Proofs.Ytimcpbbcealkiaa
open Go.RowKit
set_option maxRecDepth 20000

theorem pq.at_ints (w : World) (zs : List Int) (t : TypeId) : At (w.alloc (.cells (zs.map fun z => Value.int .i64 z).toArray t)) (some ⟨w.heap.size, 0, none⟩) zs.length (fun j => .int .i64 (zs.getD j 0)) :=
  (At.new w (zs.map fun z => Value.int .i64 z).toArray t (fr := (0, 0)) (n := zs.length) (by simp)).congr fun j hj => by
    simp [List.getD, List.getElem?_map, List.getElem?_eq_getElem hj]
set_option maxHeartbeats 800000 in
theorem alike.sum_over (n : Int) (A : Option Addr) (m c : Nat) (w : World) (hn : 1099511627776 < n) (hm : 0 < m) (hm2 : m ≤ 1000) :
    Calls Try.prog 22 #[.int .i64 n, .slice A m c] w fun e w' => e = .returned (.int .i64 1099511627776) ∧ w = w' := by
  have d0 : decide (1099511627776 < n) = true := decide_eq_true hn
  have hm' : (0 : Int) < (m : Int) := by omega
  go_enter Try.func22, Try.ntmps22
  go_wp2
  go_loopw [0, 5] (fun x i wr => x = .int .i64 n ∧ i = .int .i64 0 ∧ w = wr) (fun _ i _ => m - (intOf i).toNat)
  case atStart => exact ⟨rfl, rfl, rfl⟩
  case round =>
    obtain ⟨rfl, rfl, rfl⟩ := hrel
    go_wp2
    go_ret
    exact ⟨rfl, rfl⟩
theorem alike.sum_all (n : Int) (A : Option Addr) (m c : Nat) (xs : List Int) (w : World) (hn : 0 ≤ n) (hm0 : 0 < m) (hm : m ≤ 1000) (hl : xs.length = m) (hat : At w A m (fun j => .int .i64 (xs.getD j 0))) (hp : ∀ x ∈ xs, 0 ≤ x ∧ x ≤ 9223372036854775807) :
    Calls Try.prog 22 #[.int .i64 n, .slice A m c] w fun e w' => e = .returned (.int .i64 (alike.sum n xs)) ∧ w = w' := by
  by_cases h : n ≤ 1099511627776
  · exact alike.sum_any n A m c xs w hn h hm hl hat hp
  · rw [show alike.sum n xs = 1099511627776 by
      have := sum_pos (xs := xs) fun x hx => (hp x hx).1
      unfold alike.sum
      omega]
    exact alike.sum_over n A m c w (by omega) hm0 hm

set_option maxHeartbeats 4000000 in
theorem alike.req_any (r : PReq) (An : Option Addr) (cn : Nat) (Ad : Option Addr) (cd : Nat) (w : World) (h : ReqV w An cn Ad cd r) :
    Calls Try.prog 8 #[.agg (r.cells An cn Ad cd)] w fun e w' => (∃ t : Int, e = .returned (.int .i64 t) ∧ (0 ≤ t ∧ t ≤ 1099511627776) ∧ (t ≤ 5000 → (r.client.size : Int) ≤ 5000 ∧ (r.topic.size : Int) ≤ 5000 ∧ (r.group.size : Int) ≤ 5000 ∧ (r.member.size : Int) ≤ 5000 ∧ (r.data.length : Int) ≤ 5000 ∧ (r.names.length : Int) ≤ 5000 ∧ ∀ s ∈ r.names, (s.size : Int) ≤ 5000)) ∧ Below w.heap.size w w' := by
  obtain ⟨hfit, hnv, hdv⟩ := h
  obtain ⟨A1, c1, e1, hat, hac, hacm, hsz⟩ := hnv
  obtain ⟨rfl, rfl⟩ : An = A1 ∧ cn = c1 := by injection e1 with q1 q2 q3; exact ⟨q1, q3⟩
  have hdl : r.data.length ≤ maxLen := by obtain ⟨A2, c2, -, -, q1, q2, -⟩ := hdv; exact Nat.le_trans q1 q2
  clear hdv e1
  have hf0 : r.client.size ≤ maxLen := hfit.2.1
  have hf1 : r.topic.size ≤ maxLen := hfit.2.2.1
  have hf2 : r.group.size ≤ maxLen := hfit.2.2.2.1
  have hf3 : r.member.size ≤ maxLen := hfit.2.2.2.2
  clear hfit
  unfold maxLen at hacm hdl hf0 hf1 hf2 hf3
  obtain ⟨nn, hnn⟩ : ∃ n, n = r.names.length := ⟨_, rfl⟩
  obtain ⟨nd, hnd⟩ : ∃ n, n = r.data.length := ⟨_, rfl⟩
  unfold PReq.cells
  rw [← hnn, ← hnd]
  rw [← hnn] at hat hac
  rw [← hnd] at hdl
  obtain ⟨bx, hbx⟩ : ∃ b, b = w.heap.size := ⟨_, rfl⟩
  obtain ⟨w1, hw1⟩ : ∃ w1, w1 = w.alloc (.cells #[.int .i64 r.kind, .int .i64 r.corr, .string r.client, .string r.topic, .int .i64 r.part, .int .i64 r.off, .int .i64 r.time, .int .i64 r.most, .string r.group, .string r.member, .int .i64 r.gen, .slice An nn cn, .slice Ad nd cd] 25) := ⟨_, rfl⟩
  have hk1 : Blk w1 bx 25 #[.int .i64 r.kind, .int .i64 r.corr, .string r.client, .string r.topic, .int .i64 r.part, .int .i64 r.off, .int .i64 r.time, .int .i64 r.most, .string r.group, .string r.member, .int .i64 r.gen, .slice An nn cn, .slice Ad nd cd] := by rw [hw1, hbx]; exact Blk.new _ _ _
  have hb1 : Below w.heap.size w w1 := by rw [hw1]; exact (Below.refl _ _).alloc (Nat.le_refl _) _
  have hsum := alike.sum_all (r.client.size : Int) (some ⟨w1.heap.size, 0, none⟩) 4 4 [(r.topic.size : Int), (r.group.size : Int), (r.member.size : Int), (nd : Int)] (w1.alloc (.cells #[.int .i64 (r.topic.size : Int), .int .i64 (r.group.size : Int), .int .i64 (r.member.size : Int), .int .i64 (nd : Int)] 3)) (by omega) (by omega) (by omega) rfl (pq.at_ints w1 [(r.topic.size : Int), (r.group.size : Int), (r.member.size : Int), (nd : Int)] 3) (fun x hx => by simp only [List.mem_cons, List.not_mem_nil, or_false] at hx; omega)
  obtain ⟨t0, ht0⟩ : ∃ t, t = alike.sum (r.client.size : Int) [(r.topic.size : Int), (r.group.size : Int), (r.member.size : Int), (nd : Int)] := ⟨_, rfl⟩
  rw [← ht0] at hsum
  have ht0b : (0 ≤ t0 ∧ t0 ≤ 1099511627776) ∧ (t0 ≤ 5000 → (r.client.size : Int) ≤ t0 ∧ (r.topic.size : Int) ≤ t0 ∧ (r.group.size : Int) ≤ t0 ∧ (r.member.size : Int) ≤ t0 ∧ (nd : Int) ≤ t0) := by
    rw [ht0]
    unfold alike.sum
    simp only [List.sum_cons, List.sum_nil]
    refine ⟨by omega, fun h => ?_⟩
    refine ⟨?_, ?_, ?_, ?_, ?_⟩ <;> omega
  have HA := Lib.hid (And.intro hsum (And.intro ht0b (And.intro hb1 (And.intro hk1 (And.intro hat (And.intro hsz (And.intro hnn (And.intro hnd hbx)))))))); clear hsum ht0b hb1 hat hsz ht0 hnn hnd
  have y0 := hk1.cell 0 (v := .int .i64 r.kind) rfl
  have y1 := hk1.cell 1 (v := .int .i64 r.corr) rfl
  have y2 := hk1.cell 2 (v := .string r.client) rfl
  have y3 := hk1.cell 3 (v := .string r.topic) rfl
  have y4 := hk1.cell 4 (v := .int .i64 r.part) rfl
  have y5 := hk1.cell 5 (v := .int .i64 r.off) rfl
  have y6 := hk1.cell 6 (v := .int .i64 r.time) rfl
  have y7 := hk1.cell 7 (v := .int .i64 r.most) rfl
  have y8 := hk1.cell 8 (v := .string r.group) rfl
  have y9 := hk1.cell 9 (v := .string r.member) rfl
  have y10 := hk1.cell 10 (v := .int .i64 r.gen) rfl
  have y11 := hk1.cell 11 (v := .slice An nn cn) rfl
  have y12 := hk1.cell 12 (v := .slice Ad nd cd) rfl
  have yl := hk1.lt
  clear hk1
  go_enter Try.func8, Try.ntmps8
  go_upto_region 1 with fail
  rw [← hw1, ← hbx]
  clear hw1 hbx
  go_upto_region 2 with (go_at_call 22; refine HA.out.1.mono ?_; rintro e w2 ⟨rfl, h3⟩; subst h3)
  obtain ⟨w2, hw2⟩ : ∃ w2, w2 = w1.alloc (.cells #[.int .i64 (r.topic.size : Int), .int .i64 (r.group.size : Int), .int .i64 (r.member.size : Int), .int .i64 (nd : Int)] 3) := ⟨_, rfl⟩
  rw [← hw2]
  have hb12 : Below w.heap.size w w2 := by rw [hw2]; exact HA.out.2.2.1.alloc HA.out.2.2.1.size _
  have hk2 : Blk w2 bx 25 #[.int .i64 r.kind, .int .i64 r.corr, .string r.client, .string r.topic, .int .i64 r.part, .int .i64 r.off, .int .i64 r.time, .int .i64 r.most, .string r.group, .string r.member, .int .i64 r.gen, .slice An nn cn, .slice Ad nd cd] := by rw [hw2]; exact (Chg.alloc w1 _ (fun _ => False)).blk HA.out.2.2.2.1 fun q => q
  have HB := Lib.hid (And.intro hb12 hk2); clear hb12 hk2 hw2 y0 y1 y2 y3 y4 y5 y6 y7 y8 y9 y10 y11 y12 yl
  go_wp2_with fail
  go_loopw [3, 4] (fun x i wx => ∃ (j : Nat) (t : Int), j ≤ nn ∧ i = .int .i64 (j : Int) ∧ x = .int .i64 t ∧ (0 ≤ t ∧ t ≤ 1099511627776) ∧ (t ≤ 5000 → t0 ≤ t ∧ (j : Int) ≤ t ∧ ∀ (q : Nat) (s : ByteArray), q < j → r.names[q]? = some s → (s.size : Int) ≤ t) ∧ Below w2.heap.size w2 wx) (fun _ i _ => nn - (intOf i).toNat)
  case atStart => exact ⟨0, t0, by omega, rfl, rfl, HA.out.2.1.1, fun h => ⟨Int.le_refl _, by have := HA.out.2.1.1; omega, fun q s hq => absurd hq (Nat.not_lt_zero _)⟩, Below.refl _ _⟩
  case round =>
    obtain ⟨j, t, hj, rfl, rfl, ht, hinv, hbw⟩ := hrel
    have hkr := (chg_of (P := fun _ => False) hbw).blk HB.out.2 fun q => q
    have y11 := hkr.cell 11 (v := .slice An nn cn) rfl
    have yl := hkr.lt
    have hfin : (j = nn ∨ 1099511627776 < t) → t ≤ 5000 → (r.client.size : Int) ≤ 5000 ∧ (r.topic.size : Int) ≤ 5000 ∧ (r.group.size : Int) ≤ 5000 ∧ (r.member.size : Int) ≤ 5000 ∧ (nd : Int) ≤ 5000 ∧ (nn : Int) ≤ 5000 ∧ ∀ s ∈ r.names, (s.size : Int) ≤ 5000 := fun hor h5 => by
      obtain ⟨h1, h2, h3⟩ := hinv h5
      have h4 := HA.out.2.1.2 (by omega)
      have hjn : j = nn := by omega
      have hn1 := HA.out.2.2.2.2.2.2.1
      refine ⟨?_, ?_, ?_, ?_, ?_, by omega, fun s hs => ?_⟩
      all_goals try (have := h4; omega)
      obtain ⟨q, hq⟩ := List.mem_iff_getElem?.1 hs
      have := h3 q s (by have := (List.getElem?_eq_some_iff.1 hq).1; omega) hq
      omega
    by_cases hlt : j < nn
    · have hlt' : (j : Int) < (nn : Int) := by omega
      by_cases hlim : t ≤ 1099511627776
      · have d0 : decide (t ≤ 1099511627776) = true := decide_eq_true hlim
        obtain ⟨s, hs⟩ : ∃ s, r.names[j]? = some s := ⟨_, List.getElem?_eq_getElem (by have := HA.out.2.2.2.2.2.2.1; omega)⟩
        obtain ⟨b, off, rfl, hb, hc⟩ := (HA.out.2.2.2.2.1.below (HB.out.1.trans (hbw.mono HB.out.1.size)) (Nat.le_refl _)) (by omega)
        have c0 : wr.cell? ⟨b, off + j, none⟩ = some (.string s) := by rw [hc j hlt]; simp [List.getD, hs]
        have hss := HA.out.2.2.2.2.2.1 s (List.mem_of_getElem? hs)
        unfold maxLen at hss
        clear hc
        have hsum := alike.sum_all t (some ⟨wr.heap.size, 0, none⟩) 2 2 [(1 : Int), (s.size : Int)] (wr.alloc (.cells #[.int .i64 1, .int .i64 (s.size : Int)] 3)) (by omega) (by omega) (by omega) rfl (pq.at_ints wr [(1 : Int), (s.size : Int)] 3) (fun x hx => by simp only [List.mem_cons, List.not_mem_nil, or_false] at hx; omega)
        obtain ⟨t2, ht2⟩ : ∃ t2, t2 = alike.sum t [(1 : Int), (s.size : Int)] := ⟨_, rfl⟩
        rw [← ht2] at hsum
        have hb2 : 0 ≤ t2 ∧ t2 ≤ 1099511627776 := by rw [ht2]; unfold alike.sum; simp only [List.sum_cons, List.sum_nil]; omega
        have hinv2 : t2 ≤ 5000 → t0 ≤ t2 ∧ ((j + 1 : Nat) : Int) ≤ t2 ∧ ∀ (q : Nat) (s : ByteArray), q < j + 1 → r.names[q]? = some s → (s.size : Int) ≤ t2 := fun h5 => by
          have h6 : t + 1 + (s.size : Int) = t2 := by rw [ht2] at h5 ⊢; unfold alike.sum at h5 ⊢; simp only [List.sum_cons, List.sum_nil] at h5 ⊢; omega
          obtain ⟨h1, h2, h3⟩ := hinv (by omega)
          refine ⟨by omega, by omega, fun q s' hq hs' => ?_⟩
          rcases Nat.lt_or_ge q j with hq1 | hq1
          · have := h3 q s' hq1 hs'
            omega
          · obtain rfl : q = j := by omega
            rw [hs] at hs'
            obtain rfl := Option.some.inj hs'
            omega
        have HS := Lib.hid (And.intro hsum (And.intro hb2 (And.intro hinv2 (hbw.alloc hbw.size (.cells #[.int .i64 1, .int .i64 (s.size : Int)] 3))))); clear hsum hb2 hinv2 ht2 hs hinv hbw hfin hkr hss
        go_wp2_with (go_at_call 22; refine HS.out.1.mono ?_; rintro e w5 ⟨rfl, h3⟩; subst h3)
        exact ⟨⟨j + 1, t2, by omega, by go_num, rfl, HS.out.2.1, HS.out.2.2.1, HS.out.2.2.2⟩, by simp [intOf]; omega⟩
      · exact absurd ht.2 hlim
    · obtain rfl : nn = j := by omega
      have HF := Lib.hid (And.intro (hfin (.inl rfl)) (HB.out.1.trans (hbw.mono HB.out.1.size))); clear hfin hbw hinv hkr hlt
      go_wp2_with fail
      go_ret
      exact ⟨⟨t, rfl, ht, HF.out.1⟩, HF.out.2⟩

set_option maxHeartbeats 4000000 in
theorem law20.answer_any (r : PAns) (An : Option Addr) (cn : Nat) (Am : Option Addr) (cm : Nat) (Ad : Option Addr) (cd : Nat) (w : World) (h : AnsV w An cn Am cm Ad cd r) :
    Calls Try.prog 16 #[.agg (r.cells An cn Am cm Ad cd)] w fun e w' => (∃ t : Int, e = .returned (.int .i64 t) ∧ (0 ≤ t ∧ t ≤ 1099511627776) ∧ (t ≤ 5000 → (r.member.size : Int) ≤ 5000 ∧ (r.leader.size : Int) ≤ 5000 ∧ (r.nums.length : Int) ≤ 5000 ∧ (r.data.length : Int) ≤ 5000 ∧ (r.names.length : Int) ≤ 5000 ∧ ∀ s ∈ r.names, (s.size : Int) ≤ 5000)) ∧ Below w.heap.size w w' := by
  obtain ⟨hfit, hnv, hmv, hdv⟩ := h
  obtain ⟨A1, c1, e1, hat, hac, hacm, hsz⟩ := hnv
  obtain ⟨rfl, rfl⟩ : An = A1 ∧ cn = c1 := by injection e1 with q1 q2 q3; exact ⟨q1, q3⟩
  have hdl : r.data.length ≤ maxLen := by obtain ⟨A2, c2, -, -, q1, q2, -⟩ := hdv; exact Nat.le_trans q1 q2
  have hml : r.nums.length ≤ maxLen := by obtain ⟨A2, c2, -, -, q1, q2, -⟩ := hmv; exact Nat.le_trans q1 q2
  clear hmv
  clear hdv e1
  have hf0 : r.member.size ≤ maxLen := hfit.2.1
  have hf1 : r.leader.size ≤ maxLen := hfit.2.2
  clear hfit
  unfold maxLen at hacm hdl hf0 hf1 hml
  obtain ⟨nn, hnn⟩ : ∃ n, n = r.names.length := ⟨_, rfl⟩
  obtain ⟨nd, hnd⟩ : ∃ n, n = r.data.length := ⟨_, rfl⟩
  obtain ⟨nm, hnm⟩ : ∃ n, n = r.nums.length := ⟨_, rfl⟩
  unfold PAns.cells
  rw [← hnn, ← hnd, ← hnm]
  rw [← hnn] at hat hac
  rw [← hnd] at hdl
  rw [← hnm] at hml
  obtain ⟨bx, hbx⟩ : ∃ b, b = w.heap.size := ⟨_, rfl⟩
  obtain ⟨w1, hw1⟩ : ∃ w1, w1 = w.alloc (.cells #[.int .i64 r.corr, .int .i64 r.code, .int .i64 r.off, .int .i64 r.last, .int .i64 r.gen, .string r.member, .string r.leader, .slice An nn cn, .slice Am nm cm, .slice Ad nd cd] 41) := ⟨_, rfl⟩
  have hk1 : Blk w1 bx 41 #[.int .i64 r.corr, .int .i64 r.code, .int .i64 r.off, .int .i64 r.last, .int .i64 r.gen, .string r.member, .string r.leader, .slice An nn cn, .slice Am nm cm, .slice Ad nd cd] := by rw [hw1, hbx]; exact Blk.new _ _ _
  have hb1 : Below w.heap.size w w1 := by rw [hw1]; exact (Below.refl _ _).alloc (Nat.le_refl _) _
  have hsum := alike.sum_all (r.member.size : Int) (some ⟨w1.heap.size, 0, none⟩) 3 3 [(r.leader.size : Int), (nm : Int), (nd : Int)] (w1.alloc (.cells #[.int .i64 (r.leader.size : Int), .int .i64 (nm : Int), .int .i64 (nd : Int)] 3)) (by omega) (by omega) (by omega) rfl (pq.at_ints w1 [(r.leader.size : Int), (nm : Int), (nd : Int)] 3) (fun x hx => by simp only [List.mem_cons, List.not_mem_nil, or_false] at hx; omega)
  obtain ⟨t0, ht0⟩ : ∃ t, t = alike.sum (r.member.size : Int) [(r.leader.size : Int), (nm : Int), (nd : Int)] := ⟨_, rfl⟩
  rw [← ht0] at hsum
  have ht0b : (0 ≤ t0 ∧ t0 ≤ 1099511627776) ∧ (t0 ≤ 5000 → (r.member.size : Int) ≤ t0 ∧ (r.leader.size : Int) ≤ t0 ∧ (nm : Int) ≤ t0 ∧ (nd : Int) ≤ t0) := by
    rw [ht0]
    unfold alike.sum
    simp only [List.sum_cons, List.sum_nil]
    refine ⟨by omega, fun h => ?_⟩
    refine ⟨?_, ?_, ?_, ?_⟩ <;> omega
  have HA := Lib.hid (And.intro hsum (And.intro ht0b (And.intro hb1 (And.intro hk1 (And.intro hat (And.intro hsz (And.intro hnn (And.intro hnd hbx)))))))); clear hsum ht0b hb1 hat hsz ht0 hnn hnd
  have HNM := Lib.hid hnm; clear hnm
  have y0 := hk1.cell 0 (v := .int .i64 r.corr) rfl
  have y1 := hk1.cell 1 (v := .int .i64 r.code) rfl
  have y2 := hk1.cell 2 (v := .int .i64 r.off) rfl
  have y3 := hk1.cell 3 (v := .int .i64 r.last) rfl
  have y4 := hk1.cell 4 (v := .int .i64 r.gen) rfl
  have y5 := hk1.cell 5 (v := .string r.member) rfl
  have y6 := hk1.cell 6 (v := .string r.leader) rfl
  have y7 := hk1.cell 7 (v := .slice An nn cn) rfl
  have y8 := hk1.cell 8 (v := .slice Am nm cm) rfl
  have y9 := hk1.cell 9 (v := .slice Ad nd cd) rfl
  have yl := hk1.lt
  clear hk1
  go_enter Try.func16, Try.ntmps16
  go_upto_region 1 with fail
  rw [← hw1, ← hbx]
  clear hw1 hbx
  go_upto_region 2 with (go_at_call 22; refine HA.out.1.mono ?_; rintro e w2 ⟨rfl, h3⟩; subst h3)
  obtain ⟨w2, hw2⟩ : ∃ w2, w2 = w1.alloc (.cells #[.int .i64 (r.leader.size : Int), .int .i64 (nm : Int), .int .i64 (nd : Int)] 3) := ⟨_, rfl⟩
  rw [← hw2]
  have hb12 : Below w.heap.size w w2 := by rw [hw2]; exact HA.out.2.2.1.alloc HA.out.2.2.1.size _
  have hk2 : Blk w2 bx 41 #[.int .i64 r.corr, .int .i64 r.code, .int .i64 r.off, .int .i64 r.last, .int .i64 r.gen, .string r.member, .string r.leader, .slice An nn cn, .slice Am nm cm, .slice Ad nd cd] := by rw [hw2]; exact (Chg.alloc w1 _ (fun _ => False)).blk HA.out.2.2.2.1 fun q => q
  have HB := Lib.hid (And.intro hb12 hk2); clear hb12 hk2 hw2 y0 y1 y2 y3 y4 y5 y6 y7 y8 y9 yl
  go_wp2_with fail
  go_loopw [3, 4] (fun x i wx => ∃ (j : Nat) (t : Int), j ≤ nn ∧ i = .int .i64 (j : Int) ∧ x = .int .i64 t ∧ (0 ≤ t ∧ t ≤ 1099511627776) ∧ (t ≤ 5000 → t0 ≤ t ∧ (j : Int) ≤ t ∧ ∀ (q : Nat) (s : ByteArray), q < j → r.names[q]? = some s → (s.size : Int) ≤ t) ∧ Below w2.heap.size w2 wx) (fun _ i _ => nn - (intOf i).toNat)
  case atStart => exact ⟨0, t0, by omega, rfl, rfl, HA.out.2.1.1, fun h => ⟨Int.le_refl _, by have := HA.out.2.1.1; omega, fun q s hq => absurd hq (Nat.not_lt_zero _)⟩, Below.refl _ _⟩
  case round =>
    obtain ⟨j, t, hj, rfl, rfl, ht, hinv, hbw⟩ := hrel
    have hkr := (chg_of (P := fun _ => False) hbw).blk HB.out.2 fun q => q
    have y7 := hkr.cell 7 (v := .slice An nn cn) rfl
    have yl := hkr.lt
    have hfin : (j = nn ∨ 5000 < t) → t ≤ 5000 → (r.member.size : Int) ≤ 5000 ∧ (r.leader.size : Int) ≤ 5000 ∧ (nm : Int) ≤ 5000 ∧ (nd : Int) ≤ 5000 ∧ (nn : Int) ≤ 5000 ∧ ∀ s ∈ r.names, (s.size : Int) ≤ 5000 := fun hor h5 => by
      obtain ⟨h1, h2, h3⟩ := hinv h5
      have h4 := HA.out.2.1.2 (by omega)
      have hjn : j = nn := by omega
      have hn1 := HA.out.2.2.2.2.2.2.1
      refine ⟨?_, ?_, ?_, ?_, by omega, fun s hs => ?_⟩
      all_goals try (have := h4; omega)
      obtain ⟨q, hq⟩ := List.mem_iff_getElem?.1 hs
      have := h3 q s (by have := (List.getElem?_eq_some_iff.1 hq).1; omega) hq
      omega
    by_cases hlt : j < nn
    · have hlt' : (j : Int) < (nn : Int) := by omega
      by_cases hlim : t ≤ 5000
      · have d0 : decide (t ≤ 5000) = true := decide_eq_true hlim
        obtain ⟨s, hs⟩ : ∃ s, r.names[j]? = some s := ⟨_, List.getElem?_eq_getElem (by have := HA.out.2.2.2.2.2.2.1; omega)⟩
        obtain ⟨b, off, rfl, hb, hc⟩ := (HA.out.2.2.2.2.1.below (HB.out.1.trans (hbw.mono HB.out.1.size)) (Nat.le_refl _)) (by omega)
        have c0 : wr.cell? ⟨b, off + j, none⟩ = some (.string s) := by rw [hc j hlt]; simp [List.getD, hs]
        have hss := HA.out.2.2.2.2.2.1 s (List.mem_of_getElem? hs)
        unfold maxLen at hss
        clear hc
        have hsum := alike.sum_all t (some ⟨wr.heap.size, 0, none⟩) 2 2 [(s.size : Int), (1 : Int)] (wr.alloc (.cells #[.int .i64 (s.size : Int), .int .i64 1] 3)) (by omega) (by omega) (by omega) rfl (pq.at_ints wr [(s.size : Int), (1 : Int)] 3) (fun x hx => by simp only [List.mem_cons, List.not_mem_nil, or_false] at hx; omega)
        obtain ⟨t2, ht2⟩ : ∃ t2, t2 = alike.sum t [(s.size : Int), (1 : Int)] := ⟨_, rfl⟩
        rw [← ht2] at hsum
        have hb2 : 0 ≤ t2 ∧ t2 ≤ 1099511627776 := by rw [ht2]; unfold alike.sum; simp only [List.sum_cons, List.sum_nil]; omega
        have hinv2 : t2 ≤ 5000 → t0 ≤ t2 ∧ ((j + 1 : Nat) : Int) ≤ t2 ∧ ∀ (q : Nat) (s : ByteArray), q < j + 1 → r.names[q]? = some s → (s.size : Int) ≤ t2 := fun h5 => by
          have h6 : t + 1 + (s.size : Int) = t2 := by rw [ht2] at h5 ⊢; unfold alike.sum at h5 ⊢; simp only [List.sum_cons, List.sum_nil] at h5 ⊢; omega
          obtain ⟨h1, h2, h3⟩ := hinv (by omega)
          refine ⟨by omega, by omega, fun q s' hq hs' => ?_⟩
          rcases Nat.lt_or_ge q j with hq1 | hq1
          · have := h3 q s' hq1 hs'
            omega
          · obtain rfl : q = j := by omega
            rw [hs] at hs'
            obtain rfl := Option.some.inj hs'
            omega
        have HS := Lib.hid (And.intro hsum (And.intro hb2 (And.intro hinv2 (hbw.alloc hbw.size (.cells #[.int .i64 (s.size : Int), .int .i64 1] 3))))); clear hsum hb2 hinv2 ht2 hs hinv hbw hfin hkr hss
        go_wp2_with (go_at_call 22; refine HS.out.1.mono ?_; rintro e w5 ⟨rfl, h3⟩; subst h3)
        exact ⟨⟨j + 1, t2, by omega, by go_num, rfl, HS.out.2.1, HS.out.2.2.1, HS.out.2.2.2⟩, by simp [intOf]; omega⟩
      · have d0 : decide (t ≤ 5000) = false := decide_eq_false hlim
        have HF := Lib.hid (And.intro (hfin (.inr (by omega))) (HB.out.1.trans (hbw.mono HB.out.1.size))); clear hfin hbw hinv hkr
        go_wp2_with fail
        go_ret
        exact ⟨⟨t, rfl, ht, HF.out.1⟩, HF.out.2⟩
    · obtain rfl : nn = j := by omega
      have HF := Lib.hid (And.intro (hfin (.inl rfl)) (HB.out.1.trans (hbw.mono HB.out.1.size))); clear hfin hbw hinv hkr hlt
      go_wp2_with fail
      go_ret
      exact ⟨⟨t, rfl, ht, HF.out.1⟩, HF.out.2⟩

end Go.Proofs.Ytimcpbbcealkiaa

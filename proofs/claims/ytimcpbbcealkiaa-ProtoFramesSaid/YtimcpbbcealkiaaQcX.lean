/- cordwainref20: Check, join, Encode (QcA, QcB, QcC; chapter 20). -/
import Derived.BigQuiet
import Derived.Test.YtimcpbbcealkiaaPqR
import Derived.Test.YtimcpbbcealkiaaBwB
import Derived.Test.YtimcpbbcealkiaaRefX
import Derived.Test.YtimcpbbcealkiaaPqD
namespace Go.Proofs.Ytimcpbbcealkiaa
section
open Go.RowKit
set_option maxRecDepth 20000
theorem qc.check (r : PReq) : pq.check r = if r.kind < 1 ∨ 14 < r.kind then 16 else if r.corr < 0 ∨ 2147483647 < r.corr then 1 else if 100 < r.client.size ∨ 100 < r.topic.size ∨ 100 < r.group.size ∨ 100 < r.member.size ∨ 30 < r.names.length ∨ 65536 < r.data.length then 3 else if pq.long r.names = true then 3 else 0 := by
  have hl : (pq.long [r.client, r.topic, r.group, r.member] = true) ↔ (100 < r.client.size ∨ 100 < r.topic.size ∨ 100 < r.group.size ∨ 100 < r.member.size) := by
    simp [pq.long]
  unfold pq.check
  by_cases h1 : r.kind < 1 ∨ 14 < r.kind
  · rw [if_pos h1, if_pos h1]
  rw [if_neg h1, if_neg h1]
  by_cases h2 : r.corr < 0 ∨ 2147483647 < r.corr
  · rw [if_pos h2, if_pos h2]
  rw [if_neg h2, if_neg h2]
  by_cases h3 : 100 < r.client.size ∨ 100 < r.topic.size ∨ 100 < r.group.size ∨ 100 < r.member.size ∨ 30 < r.names.length ∨ 65536 < r.data.length
  · rw [if_pos h3, if_pos]
    rw [hl]
    rcases h3 with h | h | h | h | h | h
    · exact .inl (.inl h)
    · exact .inl (.inr (.inl h))
    · exact .inl (.inr (.inr (.inl h)))
    · exact .inl (.inr (.inr (.inr h)))
    · exact .inr (.inl h)
    · exact .inr (.inr (.inr h))
  rw [if_neg h3]
  by_cases h4 : pq.long r.names = true
  · rw [if_pos h4, if_pos (.inr (.inr (.inl h4)))]
  · rw [if_neg h4, if_neg]
    rw [hl]
    rintro (h | h | h | h)
    · rcases h with h | h | h | h
      · exact h3 (.inl h)
      · exact h3 (.inr (.inl h))
      · exact h3 (.inr (.inr (.inl h)))
      · exact h3 (.inr (.inr (.inr (.inl h))))
    · exact h3 (.inr (.inr (.inr (.inr (.inl h)))))
    · exact h4 h
    · exact h3 (.inr (.inr (.inr (.inr (.inr h)))))
set_option maxHeartbeats 4000000 in
theorem qc.check_any (r : PReq) (An : Option Addr) (cn : Nat) (Ad : Option Addr) (cd : Nat) (w : World) (h : ReqV w An cn Ad cd r) :
    Calls Try.prog 33 #[.agg (r.cells An cn Ad cd)] w fun e w' => e = .returned (.int .i64 (pq.check r)) ∧ Below w.heap.size w w' := by
  obtain ⟨⟨⟨i1, i2, -⟩, z1, z2, z3, z4⟩, hnv, hdv⟩ := h
  obtain ⟨A1, c1, e1, hat, hac, hacm, hsz⟩ := hnv
  obtain ⟨rfl, rfl⟩ : An = A1 ∧ cn = c1 := by injection e1 with q1 q2 q3; exact ⟨q1, q3⟩
  have hdl : r.data.length ≤ maxLen := by obtain ⟨A2, c2, -, -, q1, q2, -⟩ := hdv; exact Nat.le_trans q1 q2
  clear hdv e1
  have hnl : r.names.length ≤ maxLen := Nat.le_trans hac hacm
  obtain ⟨K, hK⟩ : ∃ K, K = pq.check r := ⟨_, rfl⟩
  rw [← hK]
  rw [qc.check] at hK
  unfold PReq.cells
  unfold maxLen at *
  unfold pq.int at i1 i2
  obtain ⟨b0, hb0⟩ : ∃ b, b = w.heap.size := ⟨_, rfl⟩
  obtain ⟨w1, hw1⟩ : ∃ w1, w1 = w.alloc (.cells #[.int .i64 r.kind, .int .i64 r.corr, .string r.client, .string r.topic, .int .i64 r.part, .int .i64 r.off, .int .i64 r.time, .int .i64 r.most, .string r.group, .string r.member, .int .i64 r.gen, .slice An r.names.length cn, .slice Ad r.data.length cd] 25) := ⟨_, rfl⟩
  have hk0 : Blk w1 b0 25 #[.int .i64 r.kind, .int .i64 r.corr, .string r.client, .string r.topic, .int .i64 r.part, .int .i64 r.off, .int .i64 r.time, .int .i64 r.most, .string r.group, .string r.member, .int .i64 r.gen, .slice An r.names.length cn, .slice Ad r.data.length cd] := by rw [hw1, hb0]; exact Blk.new _ _ _
  have hbw : Below w.heap.size w w1 := by rw [hw1]; exact (Below.refl _ _).alloc (Nat.le_refl _) _
  have HAT := Lib.hid (And.intro (hat.below hbw (Nat.le_refl _)) hsz); clear hat hsz
  have HK := Lib.hid hK; clear hK
  have yu0 := hk0.cell 0 (v := .int .i64 r.kind) rfl
  have yu1 := hk0.cell 1 (v := .int .i64 r.corr) rfl
  have yu2 := hk0.cell 2 (v := .string r.client) rfl
  have yu3 := hk0.cell 3 (v := .string r.topic) rfl
  have yu4 := hk0.cell 4 (v := .int .i64 r.part) rfl
  have yu5 := hk0.cell 5 (v := .int .i64 r.off) rfl
  have yu6 := hk0.cell 6 (v := .int .i64 r.time) rfl
  have yu7 := hk0.cell 7 (v := .int .i64 r.most) rfl
  have yu8 := hk0.cell 8 (v := .string r.group) rfl
  have yu9 := hk0.cell 9 (v := .string r.member) rfl
  have yu10 := hk0.cell 10 (v := .int .i64 r.gen) rfl
  have yu11 := hk0.cell 11 (v := .slice An r.names.length cn) rfl
  have yu12 := hk0.cell 12 (v := .slice Ad r.data.length cd) rfl
  have yul := hk0.lt
  have HB := Lib.hid hbw; clear hbw hk0
  by_cases q0 : r.kind < 1
  · have d0 : decide (r.kind < 1) = true := decide_eq_true q0
    have hR : K = 16 := by rw [HK.out, if_pos (.inl q0)]
    have HR := Lib.hid hR; clear hR
    clear q0
    go_enter Try.func33, Try.ntmps33
    go_upto_region 1 with fail
    rw [← hw1, ← hb0]
    clear hw1 hb0
    go_wp2
    go_ret
    exact ⟨by rw [HR.out] <;> rfl, HB.out⟩
  have d0 : decide (r.kind < 1) = false := decide_eq_false q0
  by_cases q1 : 14 < r.kind
  · have d1 : decide (14 < r.kind) = true := decide_eq_true q1
    have hR : K = 16 := by rw [HK.out, if_pos (.inr q1)]
    have HR := Lib.hid hR; clear hR
    clear q0 q1
    go_enter Try.func33, Try.ntmps33
    go_upto_region 1 with fail
    rw [← hw1, ← hb0]
    clear hw1 hb0
    go_wp2
    go_ret
    exact ⟨by rw [HR.out] <;> rfl, HB.out⟩
  have d1 : decide (14 < r.kind) = false := decide_eq_false q1
  by_cases q2 : r.corr < 0
  · have d2 : decide (r.corr < 0) = true := decide_eq_true q2
    have hR : K = 1 := by rw [HK.out, if_neg (by omega), if_pos (.inl q2)]
    have HR := Lib.hid hR; clear hR
    clear q0 q1 q2
    go_enter Try.func33, Try.ntmps33
    go_upto_region 1 with fail
    rw [← hw1, ← hb0]
    clear hw1 hb0
    go_wp2
    go_ret
    exact ⟨by rw [HR.out] <;> rfl, HB.out⟩
  have d2 : decide (r.corr < 0) = false := decide_eq_false q2
  by_cases q3 : 2147483647 < r.corr
  · have d3 : decide (2147483647 < r.corr) = true := decide_eq_true q3
    have hR : K = 1 := by rw [HK.out, if_neg (by omega), if_pos (.inr q3)]
    have HR := Lib.hid hR; clear hR
    clear q0 q1 q2 q3
    go_enter Try.func33, Try.ntmps33
    go_upto_region 1 with fail
    rw [← hw1, ← hb0]
    clear hw1 hb0
    go_wp2
    go_ret
    exact ⟨by rw [HR.out] <;> rfl, HB.out⟩
  have d3 : decide (2147483647 < r.corr) = false := decide_eq_false q3
  by_cases q4 : 100 < r.client.size
  · have d4 : decide (100 < r.client.size) = true := decide_eq_true q4
    have e4 : decide (100 < (r.client.size : Int)) = true := decide_eq_true (by omega)
    have hR : K = 3 := by rw [HK.out, if_neg (by omega), if_neg (by omega), if_pos (.inl q4)]
    have HR := Lib.hid hR; clear hR
    clear q0 q1 q2 q3 q4
    go_enter Try.func33, Try.ntmps33
    go_upto_region 1 with fail
    rw [← hw1, ← hb0]
    clear hw1 hb0
    go_wp2
    go_ret
    exact ⟨by rw [HR.out] <;> rfl, HB.out⟩
  have d4 : decide (100 < r.client.size) = false := decide_eq_false q4
  have e4 : decide (100 < (r.client.size : Int)) = false := decide_eq_false (by omega)
  by_cases q5 : 100 < r.topic.size
  · have d5 : decide (100 < r.topic.size) = true := decide_eq_true q5
    have e5 : decide (100 < (r.topic.size : Int)) = true := decide_eq_true (by omega)
    have hR : K = 3 := by rw [HK.out, if_neg (by omega), if_neg (by omega), if_pos (.inr (.inl q5))]
    have HR := Lib.hid hR; clear hR
    clear q0 q1 q2 q3 q4 q5
    go_enter Try.func33, Try.ntmps33
    go_upto_region 1 with fail
    rw [← hw1, ← hb0]
    clear hw1 hb0
    go_wp2
    go_ret
    exact ⟨by rw [HR.out] <;> rfl, HB.out⟩
  have d5 : decide (100 < r.topic.size) = false := decide_eq_false q5
  have e5 : decide (100 < (r.topic.size : Int)) = false := decide_eq_false (by omega)
  by_cases q6 : 100 < r.group.size
  · have d6 : decide (100 < r.group.size) = true := decide_eq_true q6
    have e6 : decide (100 < (r.group.size : Int)) = true := decide_eq_true (by omega)
    have hR : K = 3 := by rw [HK.out, if_neg (by omega), if_neg (by omega), if_pos (.inr (.inr (.inl q6)))]
    have HR := Lib.hid hR; clear hR
    clear q0 q1 q2 q3 q4 q5 q6
    go_enter Try.func33, Try.ntmps33
    go_upto_region 1 with fail
    rw [← hw1, ← hb0]
    clear hw1 hb0
    go_wp2
    go_ret
    exact ⟨by rw [HR.out] <;> rfl, HB.out⟩
  have d6 : decide (100 < r.group.size) = false := decide_eq_false q6
  have e6 : decide (100 < (r.group.size : Int)) = false := decide_eq_false (by omega)
  by_cases q7 : 100 < r.member.size
  · have d7 : decide (100 < r.member.size) = true := decide_eq_true q7
    have e7 : decide (100 < (r.member.size : Int)) = true := decide_eq_true (by omega)
    have hR : K = 3 := by rw [HK.out, if_neg (by omega), if_neg (by omega), if_pos (.inr (.inr (.inr (.inl q7))))]
    have HR := Lib.hid hR; clear hR
    clear q0 q1 q2 q3 q4 q5 q6 q7
    go_enter Try.func33, Try.ntmps33
    go_upto_region 1 with fail
    rw [← hw1, ← hb0]
    clear hw1 hb0
    go_wp2
    go_ret
    exact ⟨by rw [HR.out] <;> rfl, HB.out⟩
  have d7 : decide (100 < r.member.size) = false := decide_eq_false q7
  have e7 : decide (100 < (r.member.size : Int)) = false := decide_eq_false (by omega)
  by_cases q8 : 30 < r.names.length
  · have d8 : decide (30 < r.names.length) = true := decide_eq_true q8
    have e8 : decide (30 < (r.names.length : Int)) = true := decide_eq_true (by omega)
    have hR : K = 3 := by rw [HK.out, if_neg (by omega), if_neg (by omega), if_pos (.inr (.inr (.inr (.inr (.inl q8)))))]
    have HR := Lib.hid hR; clear hR
    clear q0 q1 q2 q3 q4 q5 q6 q7 q8
    go_enter Try.func33, Try.ntmps33
    go_upto_region 1 with fail
    rw [← hw1, ← hb0]
    clear hw1 hb0
    go_wp2
    go_ret
    exact ⟨by rw [HR.out] <;> rfl, HB.out⟩
  have d8 : decide (30 < r.names.length) = false := decide_eq_false q8
  have e8 : decide (30 < (r.names.length : Int)) = false := decide_eq_false (by omega)
  by_cases q9 : 65536 < r.data.length
  · have d9 : decide (65536 < r.data.length) = true := decide_eq_true q9
    have e9 : decide (65536 < (r.data.length : Int)) = true := decide_eq_true (by omega)
    have hR : K = 3 := by rw [HK.out, if_neg (by omega), if_neg (by omega), if_pos (.inr (.inr (.inr (.inr (.inr q9)))))]
    have HR := Lib.hid hR; clear hR
    clear q0 q1 q2 q3 q4 q5 q6 q7 q8 q9
    go_enter Try.func33, Try.ntmps33
    go_upto_region 1 with fail
    rw [← hw1, ← hb0]
    clear hw1 hb0
    go_wp2
    go_ret
    exact ⟨by rw [HR.out] <;> rfl, HB.out⟩
  have d9 : decide (65536 < r.data.length) = false := decide_eq_false q9
  have e9 : decide (65536 < (r.data.length : Int)) = false := decide_eq_false (by omega)
  have hR : K = if pq.long r.names = true then 3 else 0 := by rw [HK.out, if_neg (by omega), if_neg (by omega), if_neg (by omega)]
  have HR := Lib.hid hR; clear hR
  have hn30 : r.names.length ≤ 30 := by omega
  clear q0 q1 q2 q3 q4 q5 q6 q7 q8 q9
  obtain ⟨n, hn⟩ : ∃ n, n = r.names.length := ⟨_, rfl⟩
  rw [← hn] at hn30 e8 d8 yu11
  have HN := Lib.hid hn; clear hn
  have hcn : n ≤ cn := by rw [HN.out]; exact hac
  go_enter Try.func33, Try.ntmps33
  go_upto_region 1 with fail
  rw [← hw1, ← hb0]
  clear hw1 hb0
  go_wp2_with fail
  go_loopw [3] (fun i wx => ∃ j : Nat, j ≤ n ∧ i = .int .i64 (j : Int) ∧ (∀ s ∈ r.names.take j, s.size ≤ 100) ∧ w1 = wx) (fun i _ => n - (intOf i).toNat)
  case atStart => exact ⟨0, by omega, rfl, fun s hs => by simp at hs, rfl⟩
  case round =>
    obtain ⟨j, hj, rfl, hall, rfl⟩ := hrel
    by_cases hlt : j < n
    · have hlt' : (j : Int) < (n : Int) := by omega
      obtain ⟨b, off, hA, hbl, hc⟩ := HAT.out.1 (show 0 < r.names.length by rw [← HN.out]; omega)
      have hcj := hc j (by rw [← HN.out]; exact hlt)
      dsimp only at hcj
      obtain ⟨s, hs⟩ : ∃ s, r.names[j]? = some s := ⟨_, List.getElem?_eq_getElem (by rw [← HN.out]; exact hlt)⟩
      rw [show r.names.getD j ByteArray.empty = s by simp [List.getD, hs]] at hcj
      subst hA
      have hsl : s.size ≤ maxLen := HAT.out.2 s (List.mem_of_getElem? hs)
      have HS := Lib.hid (And.intro hs hall); clear hs hall hc
      by_cases hs100 : 100 < s.size
      · have d0 : decide (100 < s.size) = true := decide_eq_true hs100
        have d1 : decide (100 < (s.size : Int)) = true := decide_eq_true (by omega)
        have hlong : pq.long r.names = true := by
          unfold pq.long
          rw [List.any_eq_true]
          exact ⟨s, List.mem_of_getElem? HS.out.1, by simpa using hs100⟩
        have HL := Lib.hid hlong; clear hlong hs100
        go_wp2_with fail
        go_ret
        exact ⟨by rw [HR.out, if_pos HL.out] <;> rfl, HB.out⟩
      · have d0 : decide (100 < s.size) = false := decide_eq_false hs100
        have d1 : decide (100 < (s.size : Int)) = false := decide_eq_false (by omega)
        have hall2 : ∀ x ∈ r.names.take (j + 1), x.size ≤ 100 := fun x hx => by
          rw [List.take_add_one, HS.out.1] at hx
          rcases List.mem_append.1 hx with h | h
          · exact HS.out.2 x h
          · have : x = s := by simpa using h
            rw [this]
            omega
        have HA2 := Lib.hid hall2; clear hall2 hs100
        go_wp2_with fail
        go_roundw
        case rel => exact ⟨j + 1, by omega, by go_num, HA2.out, (by first | trivial | rfl)⟩
        case measure => simp [intOf]; omega
    · obtain rfl : n = j := by omega
      have hlong : pq.long r.names = false := by
        unfold pq.long
        rw [List.any_eq_false]
        intro s hs
        have := hall s (by rw [HN.out, List.take_length]; exact hs)
        simp
        omega
      have HL := Lib.hid hlong; clear hlong hall hlt
      go_wp2_with fail
      go_ret
      exact ⟨by rw [HR.out, if_neg (by rw [HL.out]; simp)] <;> rfl, HB.out⟩
end
section
open Go.RowKit
set_option maxRecDepth 20000
theorem qc.flat_take {Ls : List (List Nat)} {j : Nat} {L : List Nat} (h : Ls[j]? = some L) : (Ls.take (j + 1)).flatten = (Ls.take j).flatten ++ L := by
  rw [List.take_add_one, h]
  simp
theorem qc.flat_le : ∀ (Ls : List (List Nat)) (j : Nat), (Ls.take j).flatten.length ≤ Ls.flatten.length
  | [], j => by simp
  | L :: Ls, 0 => by simp
  | L :: Ls, j + 1 => by
    have := qc.flat_le Ls j
    simp only [List.take_succ_cons, List.flatten_cons, List.length_append]
    omega
/-- Rows of bytes, one behind the other. -/
theorem qc.join_any (Ls : List (List Nat)) (V : Nat → Value) (A : Option Addr) (n c : Nat) (w : World) (hn : n = Ls.length) (hn2 : n ≤ 1000) (hat : At w A n V)
    (hv : ∀ j, j < n → ∃ Aj cj, V j = .slice Aj (Ls.getD j []).length cj ∧ At w Aj (Ls.getD j []).length (byteAt (Ls.getD j []))) (hs : Ls.flatten.length ≤ 1000000) :
    Calls Try.prog 34 #[.slice A n c] w fun e w' => ∃ v, e = .returned v ∧ Acc w v Ls.flatten w' := by
  have H := Lib.hid (And.intro hat (And.intro hv (And.intro hs hn))); clear hat hv hs hn
  go_enter Try.func34, Try.ntmps34
  go_wp2_with fail
  go_loopw [3, 4] (fun v i wx => ∃ j : Nat, j ≤ n ∧ i = .int .i64 (j : Int) ∧ Acc w v (Ls.take j).flatten wx) (fun _ i _ => n - (intOf i).toNat)
  case atStart => exact ⟨0, by omega, rfl, ⟨by simp only [List.take_zero, List.flatten_nil]; exact World.ownsRow_nil _ _ _ _, Below.refl _ _⟩⟩
  case round =>
    obtain ⟨j, hj, rfl, hacc⟩ := hrel
    by_cases hlt : j < n
    · have hlt' : (j : Int) < (n : Int) := by omega
      obtain ⟨L, hL⟩ : ∃ L, Ls[j]? = some L := ⟨_, List.getElem?_eq_getElem (by rw [← H.out.2.2.2]; exact hlt)⟩
      have hLg : Ls.getD j [] = L := by simp [List.getD, hL]
      obtain ⟨Aj, cj, hVj, hatj⟩ := H.out.2.1 j hlt
      rw [hLg] at hVj hatj
      obtain ⟨b, off, hA, hbl, hc⟩ := (H.out.1.below hacc.2 (Nat.le_refl _)) (show 0 < n by omega)
      have hcj := hc j hlt
      rw [hVj] at hcj
      have hatj' := hatj.below hacc.2 (Nat.le_refl _)
      have hlen : (Ls.take j).flatten.length + L.length ≤ 1000000 := by
        have h1 := qc.flat_le Ls (j + 1)
        rw [qc.flat_take hL, List.length_append] at h1
        have := H.out.2.2.1
        omega
      subst hA
      obtain ⟨m, hm⟩ : ∃ m, m = L.length := ⟨_, rfl⟩
      rw [← hm] at hcj hatj'
      have HJ := Lib.hid (And.intro hacc (And.intro hatj' (And.intro hL (And.intro hm hlen)))); clear hacc hatj' hL hm hlen hc hVj hatj hLg
      go_wp2_with (at_builtin; refine wpList_acc rfl (.tmp 11) (.tmp 15) rfl _ _ rfl HJ.out.1 Aj m cj L rfl HJ.out.2.2.2.1.symm HJ.out.2.1 (by have := HJ.out.2.2.2.2; omega) ?_; intro v' w2 hA2; rw [← qc.flat_take HJ.out.2.2.1] at hA2; have HA2 := Lib.hid hA2; clear hA2)
      go_roundw
      case rel => exact ⟨j + 1, by omega, by go_num, HA2.out⟩
      case measure => simp [intOf]; omega
    · obtain rfl : n = j := by omega
      have hres := hacc
      rw [H.out.2.2.2, List.take_length] at hres
      have HR := Lib.hid hres; clear hres hacc hlt
      go_wp2_with fail
      go_ret
      exact ⟨_, rfl, HR.out⟩
end
section
open Go.RowKit
set_option maxRecDepth 20000
theorem qc.text_any (s : ByteArray) (w : World) (hs : s.size ≤ 100) : Calls Try.prog 36 #[.string s] w fun e w' => ∃ v, e = .returned v ∧ Acc w v (pq.text s) w' := by
  refine (wire.reftext_any s w (by omega)).mono ?_
  rintro e w' ⟨⟨v, rfl, h1⟩, h2⟩
  exact ⟨v, rfl, h1, h2⟩
theorem qc.put_any (n : Int) (w : World) (h : pq.int n) : Calls Try.prog 37 #[.int .i64 n] w fun e w' => ∃ v, e = .returned v ∧ Acc w v (num.put n) w' := by
  refine (num.refput_any n w h.1 h.2).mono ?_
  rintro e w' ⟨⟨v, rfl, h1⟩, h2⟩
  exact ⟨v, rfl, h1, h2⟩
theorem qc.fixed_any (n : Int) (size : Nat) (w : World) (h0 : 0 ≤ n) (hs1 : 1 ≤ size) (hs8 : size ≤ 8) (hn : n ≤ 9223372036854775807) : Calls Try.prog 35 #[.int .i64 n, .int .i64 size] w fun e w' => ∃ v, e = .returned v ∧ Acc w v (wire.be n.toNat size) w' := by
  refine (ref.fixed_int n size w h0 hs1 hs8 hn).mono ?_
  rintro e w' ⟨A, c, rfl, h1, -⟩
  exact ⟨_, rfl, h1⟩
/-- What stands ahead of the names, in twelve pieces. -/
def qc.parts (r : PReq) : List (List Nat) := [wire.be r.kind.toNat 2, wire.be r.corr.toNat 4, pq.text r.client, pq.text r.topic, num.put r.part, num.put r.off, num.put r.time, num.put r.most, pq.text r.group, pq.text r.member, num.put r.gen, num.put r.names.length]
theorem qc.parts_bytes (r : PReq) : ((qc.parts r).flatten ++ pq.texts r.names) ++ (num.put r.data.length ++ r.data) = pq.bytes r := by
  unfold qc.parts pq.bytes
  simp only [List.flatten_cons, List.flatten_nil, List.append_nil, List.nil_append, List.append_assoc]
theorem qc.form {w w' : World} {v : Value} {L : List Nat} (h : Acc w v L w') : ∃ A m c, v = .slice A m c := by
  obtain ⟨A, c, e, -, -⟩ := h.at'
  exact ⟨A, _, c, e⟩
theorem qc.piece {w w' : World} {v : Value} {L : List Nat} (h : Acc w v L w') (w2 : World) (hb : Below w'.heap.size w' w2) : ∃ A c, v = .slice A L.length c ∧ At w2 A L.length (byteAt L) := by
  obtain ⟨A, c, e, -, hat⟩ := h.at'
  exact ⟨A, c, e, hat.below hb (Nat.le_refl _)⟩
inductive qc.Pcs (t : World) : List Value → List (List Nat) → Prop
  | nil : qc.Pcs t [] []
  | cons {v : Value} {L : List Nat} {ps : List Value} {Ls : List (List Nat)} (h : ∃ A c, v = .slice A L.length c ∧ At t A L.length (byteAt L)) (hs : qc.Pcs t ps Ls) : qc.Pcs t (v :: ps) (L :: Ls)
theorem qc.Pcs.get {t : World} {ps : List Value} {Ls : List (List Nat)} (h : qc.Pcs t ps Ls) : ∀ j, j < ps.length → ∃ Aj cj, ps.getD j undef = .slice Aj (Ls.getD j []).length cj ∧ At t Aj (Ls.getD j []).length (byteAt (Ls.getD j [])) := by
  induction h with
  | nil => intro j hj; cases hj
  | cons h hs ih =>
    intro j hj
    cases j with
    | zero => exact h
    | succ j => exact ih j (by simpa using hj)
theorem qc.new12 (t : World) (p0 p1 p2 p3 p4 p5 p6 p7 p8 p9 p10 p11 : Value) : At (t.alloc (.cells #[p0, p1, p2, p3, p4, p5, p6, p7, p8, p9, p10, p11] 23)) (some ⟨t.heap.size, 0, none⟩) 12 (fun j => [p0, p1, p2, p3, p4, p5, p6, p7, p8, p9, p10, p11].getD j undef) :=
  (At.new t #[p0, p1, p2, p3, p4, p5, p6, p7, p8, p9, p10, p11] 23 (fr := (0, 0)) (n := 12) rfl).congr fun j hj => by
    have hj' : j = 0 ∨ j = 1 ∨ j = 2 ∨ j = 3 ∨ j = 4 ∨ j = 5 ∨ j = 6 ∨ j = 7 ∨ j = 8 ∨ j = 9 ∨ j = 10 ∨ j = 11 := by omega
    rcases hj' with rfl | rfl | rfl | rfl | rfl | rfl | rfl | rfl | rfl | rfl | rfl | rfl <;> rfl
set_option maxHeartbeats 8000000 in
theorem qc.encode_ok (r : PReq) (An : Option Addr) (cn : Nat) (Ad : Option Addr) (cd : Nat) (w : World) (h : ReqV w An cn Ad cd r) (hck : pq.check r = 0) :
    Calls Try.prog 11 #[.agg (r.cells An cn Ad cd)] w fun e w' => ∃ v, e = .returned (.tuple #[v, .int .i64 0]) ∧ Acc w v (pq.bytes r) w' := by
  have hchk := fun wx (hb : Below w.heap.size w wx) => qc.check_any r An cn Ad cd wx (h.below hb (Nat.le_refl _))
  rw [hck] at hchk
  have hlen := (pq.bytes_len hck).2
  obtain ⟨⟨hk1, hk2⟩, ⟨hr1, hr2⟩, hl4, hn30, hln, hd6⟩ := pq.check_ok hck
  have hs4 := pq.long_no hl4
  have hsn := pq.long_no hln
  have s2 := hs4 r.client (by simp)
  have s3 := hs4 r.topic (by simp)
  have s8 := hs4 r.group (by simp)
  have s9 := hs4 r.member (by simp)
  obtain ⟨⟨⟨i1, i2, i3, i4, i5, i6, i7⟩, -⟩, hnv, hdv⟩ := h
  obtain ⟨A1, c1, e1, hat, hac, hacm, -⟩ := hnv
  obtain ⟨rfl, rfl⟩ : An = A1 ∧ cn = c1 := by injection e1 with q1 q2 q3; exact ⟨q1, q3⟩
  obtain ⟨A2, c2, e2, hdat, -, -, -⟩ := hdv
  obtain ⟨rfl, rfl⟩ : Ad = A2 ∧ cd = c2 := by injection e2 with q1 q2 q3; exact ⟨q1, q3⟩
  clear e1 e2 hck hl4 hs4 hln
  unfold PReq.cells at hchk ⊢
  obtain ⟨b0, hb0⟩ : ∃ b, b = w.heap.size := ⟨_, rfl⟩
  obtain ⟨w1, hw1⟩ : ∃ w1, w1 = w.alloc (.cells #[.int .i64 r.kind, .int .i64 r.corr, .string r.client, .string r.topic, .int .i64 r.part, .int .i64 r.off, .int .i64 r.time, .int .i64 r.most, .string r.group, .string r.member, .int .i64 r.gen, .slice An r.names.length cn, .slice Ad r.data.length cd] 25) := ⟨_, rfl⟩
  have hk0 : Blk w1 b0 25 #[.int .i64 r.kind, .int .i64 r.corr, .string r.client, .string r.topic, .int .i64 r.part, .int .i64 r.off, .int .i64 r.time, .int .i64 r.most, .string r.group, .string r.member, .int .i64 r.gen, .slice An r.names.length cn, .slice Ad r.data.length cd] := by rw [hw1, hb0]; exact Blk.new _ _ _
  have hbw : Below w.heap.size w w1 := by rw [hw1]; exact (Below.refl _ _).alloc (Nat.le_refl _) _
  have HB := Lib.hid (And.intro hk0 hbw); clear hk0 hbw
  have hup : ∀ wx, Chg w1 wx (fun _ => False) → Below w.heap.size w wx := fun wx h => HB.out.2.trans (h.below HB.out.2.size fun _ q => q.elim)
  have HUP := Lib.hid hup; clear hup
  have H := Lib.hid (And.intro hat (And.intro hsn (And.intro hdat (And.intro hchk (And.intro hac (And.intro i3 (And.intro i4 (And.intro i5 (And.intro i6 (And.intro i7 (And.intro s2 (And.intro s3 (And.intro s8 (And.intro s9 hlen)))))))))))))); clear hat hsn hdat hchk i1 i2 i3 i4 i5 i6 i7 s2 s3 s8 s9 hlen hac hacm
  go_enter Try.func11, Try.ntmps11
  go_upto_region 1 with fail
  rw [← hw1, ← hb0]
  have HSZ := Lib.hid hb0
  clear hw1 hb0
  have yu0 := HB.out.1.cell 0 (v := .int .i64 r.kind) rfl
  have yu1 := HB.out.1.cell 1 (v := .int .i64 r.corr) rfl
  have yu2 := HB.out.1.cell 2 (v := .string r.client) rfl
  have yu3 := HB.out.1.cell 3 (v := .string r.topic) rfl
  have yu4 := HB.out.1.cell 4 (v := .int .i64 r.part) rfl
  have yu5 := HB.out.1.cell 5 (v := .int .i64 r.off) rfl
  have yu6 := HB.out.1.cell 6 (v := .int .i64 r.time) rfl
  have yu7 := HB.out.1.cell 7 (v := .int .i64 r.most) rfl
  have yu8 := HB.out.1.cell 8 (v := .string r.group) rfl
  have yu9 := HB.out.1.cell 9 (v := .string r.member) rfl
  have yu10 := HB.out.1.cell 10 (v := .int .i64 r.gen) rfl
  have yu11 := HB.out.1.cell 11 (v := .slice An r.names.length cn) rfl
  have yu12 := HB.out.1.cell 12 (v := .slice Ad r.data.length cd) rfl
  have yul := HB.out.1.lt
  go_upto_region 4 with (go_at_call 33; refine (H.out.2.2.2.1 w1 (HUP.out _ (Chg.refl _ _))).mono ?_; rintro en w2 ⟨rfl, h9⟩; have C2 := Lib.hid (chg_of (P := fun _ => False) h9); clear h9)
  clear yu0 yu1 yu2 yu3 yu4 yu5 yu6 yu7 yu8 yu9 yu10 yu11 yu12 yul
  have z0 : ∀ x : Later w2 (fun _ => False), x.1.cell? ⟨b0, 0, none⟩ = some (.int .i64 r.kind) := fun x => (x.2.blk (C2.out.blk HB.out.1 fun q => q) fun q => q).cell 0 rfl
  have z1 : ∀ x : Later w2 (fun _ => False), x.1.cell? ⟨b0, 1, none⟩ = some (.int .i64 r.corr) := fun x => (x.2.blk (C2.out.blk HB.out.1 fun q => q) fun q => q).cell 1 rfl
  have z2 : ∀ x : Later w2 (fun _ => False), x.1.cell? ⟨b0, 2, none⟩ = some (.string r.client) := fun x => (x.2.blk (C2.out.blk HB.out.1 fun q => q) fun q => q).cell 2 rfl
  have z3 : ∀ x : Later w2 (fun _ => False), x.1.cell? ⟨b0, 3, none⟩ = some (.string r.topic) := fun x => (x.2.blk (C2.out.blk HB.out.1 fun q => q) fun q => q).cell 3 rfl
  have z4 : ∀ x : Later w2 (fun _ => False), x.1.cell? ⟨b0, 4, none⟩ = some (.int .i64 r.part) := fun x => (x.2.blk (C2.out.blk HB.out.1 fun q => q) fun q => q).cell 4 rfl
  have z5 : ∀ x : Later w2 (fun _ => False), x.1.cell? ⟨b0, 5, none⟩ = some (.int .i64 r.off) := fun x => (x.2.blk (C2.out.blk HB.out.1 fun q => q) fun q => q).cell 5 rfl
  have z6 : ∀ x : Later w2 (fun _ => False), x.1.cell? ⟨b0, 6, none⟩ = some (.int .i64 r.time) := fun x => (x.2.blk (C2.out.blk HB.out.1 fun q => q) fun q => q).cell 6 rfl
  have z7 : ∀ x : Later w2 (fun _ => False), x.1.cell? ⟨b0, 7, none⟩ = some (.int .i64 r.most) := fun x => (x.2.blk (C2.out.blk HB.out.1 fun q => q) fun q => q).cell 7 rfl
  have z8 : ∀ x : Later w2 (fun _ => False), x.1.cell? ⟨b0, 8, none⟩ = some (.string r.group) := fun x => (x.2.blk (C2.out.blk HB.out.1 fun q => q) fun q => q).cell 8 rfl
  have z9 : ∀ x : Later w2 (fun _ => False), x.1.cell? ⟨b0, 9, none⟩ = some (.string r.member) := fun x => (x.2.blk (C2.out.blk HB.out.1 fun q => q) fun q => q).cell 9 rfl
  have z10 : ∀ x : Later w2 (fun _ => False), x.1.cell? ⟨b0, 10, none⟩ = some (.int .i64 r.gen) := fun x => (x.2.blk (C2.out.blk HB.out.1 fun q => q) fun q => q).cell 10 rfl
  have z11 : ∀ x : Later w2 (fun _ => False), x.1.cell? ⟨b0, 11, none⟩ = some (.slice An r.names.length cn) := fun x => (x.2.blk (C2.out.blk HB.out.1 fun q => q) fun q => q).cell 11 rfl
  have zl : ∀ x : Later w2 (fun _ => False), b0 < x.1.heap.size := fun x => (x.2.blk (C2.out.blk HB.out.1 fun q => q) fun q => q).lt
  have hS0 : later w2 (fun _ => False) w2.drew := later_of ((Chg.refl _ _).drew)
  have hc0 : Below w2.heap.size w2 w2.drew := bdrew (Below.refl _ w2) 1
  have D0 := Lib.hid hc0; clear hc0
  refine wp_plan (S := fun w0 => ∃ x : Later w2 (fun _ => False), w0 = x.1) (by kernel_rfl) hS0 ?_
  intro hS' K5 hK5
  have HS := Lib.hid hS'; clear hS' hS0
  refine plan_group [true, true, false, true, true, false, true, true, false, true, true, false, true, true, false, true, true, false, true, true, false, true, true, false, true, true, false, true, true, false, true, true, false, true, true, true] [0, 1, 3, 4, 6, 7, 9, 10, 12, 13, 15, 16, 18, 19, 21, 22, 24, 25, 27, 28, 30, 31, 33, 34, 35] 15 (by dsimp only [sel]) (by rfl) rfl (by kernel_rfl) (by kernel_rfl) HS.out ?_
  (repeat go_big_quiet_step (fail)); refine wpQuiet_nil ?_
  refine plan_one [false, false, true] 2 14 (by dsimp only [sel]) (by rfl) rfl (by kernel_rfl) ?_; intro K10 hK10
  go_wp2_with (go_at_call 35; refine (qc.fixed_any r.kind 2 _ (by omega) (by omega) (by omega) (by omega)).mono ?_; rintro en t0 ⟨p0, rfl, h9⟩; obtain ⟨P0, m0, c0, rfl⟩ := qc.form h9; have A0 := Lib.hid h9; have D1 := Lib.hid (D0.out.trans (h9.2.mono D0.out.size)); clear h9)
  refine ⟨by first | exact later_of (chg_of D1.out) | exact fun _ => later_of (chg_of D1.out), ?_⟩
  refine plan_one [false, false, false, false, false, true] 5 13 (by dsimp only [sel]) (by rfl) rfl (by kernel_rfl) ?_; intro K11 hK11
  go_wp2_with (go_at_call 35; refine (qc.fixed_any r.corr 4 _ (by omega) (by omega) (by omega) (by omega)).mono ?_; rintro en t1 ⟨p1, rfl, h9⟩; obtain ⟨P1, m1, c1, rfl⟩ := qc.form h9; have A1 := Lib.hid h9; have D2 := Lib.hid (D1.out.trans (h9.2.mono D1.out.size)); clear h9)
  refine ⟨by first | exact later_of (chg_of D2.out) | exact fun _ => later_of (chg_of D2.out), ?_⟩
  refine plan_one [false, false, false, false, false, false, false, false, true] 8 12 (by dsimp only [sel]) (by rfl) rfl (by kernel_rfl) ?_; intro K12 hK12
  go_wp2_with (go_at_call 36; refine (qc.text_any r.client _ H.out.2.2.2.2.2.2.2.2.2.2.1).mono ?_; rintro en t2 ⟨p2, rfl, h9⟩; obtain ⟨P2, m2, c2, rfl⟩ := qc.form h9; have A2 := Lib.hid h9; have D3 := Lib.hid (D2.out.trans (h9.2.mono D2.out.size)); clear h9)
  refine ⟨by first | exact later_of (chg_of D3.out) | exact fun _ => later_of (chg_of D3.out), ?_⟩
  refine plan_one [false, false, false, false, false, false, false, false, false, false, false, true] 11 11 (by dsimp only [sel]) (by rfl) rfl (by kernel_rfl) ?_; intro K13 hK13
  go_wp2_with (go_at_call 36; refine (qc.text_any r.topic _ H.out.2.2.2.2.2.2.2.2.2.2.2.1).mono ?_; rintro en t3 ⟨p3, rfl, h9⟩; obtain ⟨P3, m3, c3, rfl⟩ := qc.form h9; have A3 := Lib.hid h9; have D4 := Lib.hid (D3.out.trans (h9.2.mono D3.out.size)); clear h9)
  refine ⟨by first | exact later_of (chg_of D4.out) | exact fun _ => later_of (chg_of D4.out), ?_⟩
  refine plan_one [false, false, false, false, false, false, false, false, false, false, false, false, false, false, true] 14 10 (by dsimp only [sel]) (by rfl) rfl (by kernel_rfl) ?_; intro K14 hK14
  go_wp2_with (go_at_call 37; refine (qc.put_any r.part _ H.out.2.2.2.2.2.1).mono ?_; rintro en t4 ⟨p4, rfl, h9⟩; obtain ⟨P4, m4, c4, rfl⟩ := qc.form h9; have A4 := Lib.hid h9; have D5 := Lib.hid (D4.out.trans (h9.2.mono D4.out.size)); clear h9)
  refine ⟨by first | exact later_of (chg_of D5.out) | exact fun _ => later_of (chg_of D5.out), ?_⟩
  refine plan_one [false, false, false, false, false, false, false, false, false, false, false, false, false, false, false, false, false, true] 17 9 (by dsimp only [sel]) (by rfl) rfl (by kernel_rfl) ?_; intro K15 hK15
  go_wp2_with (go_at_call 37; refine (qc.put_any r.off _ H.out.2.2.2.2.2.2.1).mono ?_; rintro en t5 ⟨p5, rfl, h9⟩; obtain ⟨P5, m5, c5, rfl⟩ := qc.form h9; have A5 := Lib.hid h9; have D6 := Lib.hid (D5.out.trans (h9.2.mono D5.out.size)); clear h9)
  refine ⟨by first | exact later_of (chg_of D6.out) | exact fun _ => later_of (chg_of D6.out), ?_⟩
  refine plan_one [false, false, false, false, false, false, false, false, false, false, false, false, false, false, false, false, false, false, false, false, true] 20 8 (by dsimp only [sel]) (by rfl) rfl (by kernel_rfl) ?_; intro K16 hK16
  go_wp2_with (go_at_call 37; refine (qc.put_any r.time _ H.out.2.2.2.2.2.2.2.1).mono ?_; rintro en t6 ⟨p6, rfl, h9⟩; obtain ⟨P6, m6, c6, rfl⟩ := qc.form h9; have A6 := Lib.hid h9; have D7 := Lib.hid (D6.out.trans (h9.2.mono D6.out.size)); clear h9)
  refine ⟨by first | exact later_of (chg_of D7.out) | exact fun _ => later_of (chg_of D7.out), ?_⟩
  refine plan_one [false, false, false, false, false, false, false, false, false, false, false, false, false, false, false, false, false, false, false, false, false, false, false, true] 23 7 (by dsimp only [sel]) (by rfl) rfl (by kernel_rfl) ?_; intro K17 hK17
  go_wp2_with (go_at_call 37; refine (qc.put_any r.most _ H.out.2.2.2.2.2.2.2.2.1).mono ?_; rintro en t7 ⟨p7, rfl, h9⟩; obtain ⟨P7, m7, c7, rfl⟩ := qc.form h9; have A7 := Lib.hid h9; have D8 := Lib.hid (D7.out.trans (h9.2.mono D7.out.size)); clear h9)
  refine ⟨by first | exact later_of (chg_of D8.out) | exact fun _ => later_of (chg_of D8.out), ?_⟩
  refine plan_one [false, false, false, false, false, false, false, false, false, false, false, false, false, false, false, false, false, false, false, false, false, false, false, false, false, false, true] 26 6 (by dsimp only [sel]) (by rfl) rfl (by kernel_rfl) ?_; intro K18 hK18
  go_wp2_with (go_at_call 36; refine (qc.text_any r.group _ H.out.2.2.2.2.2.2.2.2.2.2.2.2.1).mono ?_; rintro en t8 ⟨p8, rfl, h9⟩; obtain ⟨P8, m8, c8, rfl⟩ := qc.form h9; have A8 := Lib.hid h9; have D9 := Lib.hid (D8.out.trans (h9.2.mono D8.out.size)); clear h9)
  refine ⟨by first | exact later_of (chg_of D9.out) | exact fun _ => later_of (chg_of D9.out), ?_⟩
  refine plan_one [false, false, false, false, false, false, false, false, false, false, false, false, false, false, false, false, false, false, false, false, false, false, false, false, false, false, false, false, false, true] 29 5 (by dsimp only [sel]) (by rfl) rfl (by kernel_rfl) ?_; intro K19 hK19
  go_wp2_with (go_at_call 36; refine (qc.text_any r.member _ H.out.2.2.2.2.2.2.2.2.2.2.2.2.2.1).mono ?_; rintro en t9 ⟨p9, rfl, h9⟩; obtain ⟨P9, m9, c9, rfl⟩ := qc.form h9; have A9 := Lib.hid h9; have D10 := Lib.hid (D9.out.trans (h9.2.mono D9.out.size)); clear h9)
  refine ⟨by first | exact later_of (chg_of D10.out) | exact fun _ => later_of (chg_of D10.out), ?_⟩
  refine plan_one [false, false, false, false, false, false, false, false, false, false, false, false, false, false, false, false, false, false, false, false, false, false, false, false, false, false, false, false, false, false, false, false, true] 32 4 (by dsimp only [sel]) (by rfl) rfl (by kernel_rfl) ?_; intro K110 hK110
  go_wp2_with (go_at_call 37; refine (qc.put_any r.gen _ H.out.2.2.2.2.2.2.2.2.2.1).mono ?_; rintro en t10 ⟨p10, rfl, h9⟩; obtain ⟨P10, m10, c10, rfl⟩ := qc.form h9; have A10 := Lib.hid h9; have D11 := Lib.hid (D10.out.trans (h9.2.mono D10.out.size)); clear h9)
  refine ⟨by first | exact later_of (chg_of D11.out) | exact fun _ => later_of (chg_of D11.out), ?_⟩
  refine plan_one [false, false, false, false, false, false, false, false, false, false, false, false, false, false, false, false, false, false, false, false, false, false, false, false, false, false, false, false, false, false, false, false, false, false, false, false, true] 36 3 (by dsimp only [sel]) (by rfl) rfl (by kernel_rfl) ?_; intro K111 hK111
  go_wp2_with (go_at_call 37; refine (qc.put_any (r.names.length : Int) _ (by unfold pq.int; omega)).mono ?_; rintro en t11 ⟨p11, rfl, h9⟩; obtain ⟨P11, m11, c11, rfl⟩ := qc.form h9; have A11 := Lib.hid h9; have D12 := Lib.hid (D11.out.trans (h9.2.mono D11.out.size)); clear h9)
  refine ⟨by first | exact later_of (chg_of D12.out) | exact fun _ => later_of (chg_of D12.out), ?_⟩
  have E10 : Below t10.heap.size t10 t11 := A11.out.2
  have E9 : Below t9.heap.size t9 t11 := A10.out.2.trans (E10.mono A10.out.2.size)
  have E8 : Below t8.heap.size t8 t11 := A9.out.2.trans (E9.mono A9.out.2.size)
  have E7 : Below t7.heap.size t7 t11 := A8.out.2.trans (E8.mono A8.out.2.size)
  have E6 : Below t6.heap.size t6 t11 := A7.out.2.trans (E7.mono A7.out.2.size)
  have E5 : Below t5.heap.size t5 t11 := A6.out.2.trans (E6.mono A6.out.2.size)
  have E4 : Below t4.heap.size t4 t11 := A5.out.2.trans (E5.mono A5.out.2.size)
  have E3 : Below t3.heap.size t3 t11 := A4.out.2.trans (E4.mono A4.out.2.size)
  have E2 : Below t2.heap.size t2 t11 := A3.out.2.trans (E3.mono A3.out.2.size)
  have E1 : Below t1.heap.size t1 t11 := A2.out.2.trans (E2.mono A2.out.2.size)
  have E0 : Below t0.heap.size t0 t11 := A1.out.2.trans (E1.mono A1.out.2.size)
  have E11 : Below t11.heap.size t11 t11 := Below.refl _ _
  obtain ⟨t12, ht12⟩ : ∃ t12, t12 = t11.alloc (.cells #[.slice P0 m0 c0, .slice P1 m1 c1, .slice P2 m2 c2, .slice P3 m3 c3, .slice P4 m4 c4, .slice P5 m5 c5, .slice P6 m6 c6, .slice P7 m7 c7, .slice P8 m8 c8, .slice P9 m9 c9, .slice P10 m10 c10, .slice P11 m11 c11] 23) := ⟨_, rfl⟩
  have hb12 : Below t11.heap.size t11 t12 := by rw [ht12]; exact (Below.refl _ _).alloc (Nat.le_refl _) _
  have hat12 : At t12 (some ⟨t11.heap.size, 0, none⟩) 12 (fun j => ([.slice P0 m0 c0, .slice P1 m1 c1, .slice P2 m2 c2, .slice P3 m3 c3, .slice P4 m4 c4, .slice P5 m5 c5, .slice P6 m6 c6, .slice P7 m7 c7, .slice P8 m8 c8, .slice P9 m9 c9, .slice P10 m10 c10, .slice P11 m11 c11] : List Value).getD j undef) := by rw [ht12]; exact qc.new12 t11 (.slice P0 m0 c0) (.slice P1 m1 c1) (.slice P2 m2 c2) (.slice P3 m3 c3) (.slice P4 m4 c4) (.slice P5 m5 c5) (.slice P6 m6 c6) (.slice P7 m7 c7) (.slice P8 m8 c8) (.slice P9 m9 c9) (.slice P10 m10 c10) (.slice P11 m11 c11)
  have hpc : qc.Pcs t12 [.slice P0 m0 c0, .slice P1 m1 c1, .slice P2 m2 c2, .slice P3 m3 c3, .slice P4 m4 c4, .slice P5 m5 c5, .slice P6 m6 c6, .slice P7 m7 c7, .slice P8 m8 c8, .slice P9 m9 c9, .slice P10 m10 c10, .slice P11 m11 c11] (qc.parts r) := by
    unfold qc.parts
    refine qc.Pcs.cons (qc.piece A0.out t12 (E0.trans (hb12.mono E0.size))) ?_
    refine qc.Pcs.cons (qc.piece A1.out t12 (E1.trans (hb12.mono E1.size))) ?_
    refine qc.Pcs.cons (qc.piece A2.out t12 (E2.trans (hb12.mono E2.size))) ?_
    refine qc.Pcs.cons (qc.piece A3.out t12 (E3.trans (hb12.mono E3.size))) ?_
    refine qc.Pcs.cons (qc.piece A4.out t12 (E4.trans (hb12.mono E4.size))) ?_
    refine qc.Pcs.cons (qc.piece A5.out t12 (E5.trans (hb12.mono E5.size))) ?_
    refine qc.Pcs.cons (qc.piece A6.out t12 (E6.trans (hb12.mono E6.size))) ?_
    refine qc.Pcs.cons (qc.piece A7.out t12 (E7.trans (hb12.mono E7.size))) ?_
    refine qc.Pcs.cons (qc.piece A8.out t12 (E8.trans (hb12.mono E8.size))) ?_
    refine qc.Pcs.cons (qc.piece A9.out t12 (E9.trans (hb12.mono E9.size))) ?_
    refine qc.Pcs.cons (qc.piece A10.out t12 (E10.trans (hb12.mono E10.size))) ?_
    refine qc.Pcs.cons (qc.piece A11.out t12 (E11.trans (hb12.mono E11.size))) ?_
    exact qc.Pcs.nil
  have hfl : (qc.parts r).flatten.length + (pq.texts r.names).length + (num.put r.data.length ++ r.data).length ≤ 131072 := by
    have h1 := H.out.2.2.2.2.2.2.2.2.2.2.2.2.2.2
    rw [← qc.parts_bytes r, List.length_append, List.length_append] at h1
    exact h1
  have hjoin := qc.join_any (qc.parts r) _ (some ⟨t11.heap.size, 0, none⟩) 12 12 t12 rfl (by omega) hat12 hpc.get (by omega)
  have D13 := Lib.hid (D12.out.trans (hb12.mono D12.out.size))
  have HJ := Lib.hid (And.intro hjoin (And.intro hfl ht12)); clear hjoin hfl hat12 hpc hb12 ht12 E0 E1 E2 E3 E4 E5 E6 E7 E8 E9 E10 E11 A0 A1 A2 A3 A4 A5 A6 A7 A8 A9 A10 A11
  refine plan_one [false, false, false, false, false, false, false, false, false, false, false, false, false, false, false, false, false, false, false, false, false, false, false, false, false, false, false, false, false, false, false, false, false, false, false, false, false, true] 37 2 (by dsimp only [sel]) (by rfl) rfl (by kernel_rfl) ?_; intro K131 hK131
  go_wp2_with fail
  rw [← HJ.out.2.2]
  refine ⟨by first | exact later_of (chg_of D13.out) | exact fun _ => later_of (chg_of D13.out), ?_⟩
  refine plan_one [false, false, false, false, false, false, false, false, false, false, false, false, false, false, false, false, false, false, false, false, false, false, false, false, false, false, false, false, false, false, false, false, false, false, false, false, false, false, true] 38 1 (by dsimp only [sel]) (by rfl) rfl (by kernel_rfl) ?_; intro K132 hK132
  go_wp2_with (go_at_call 34; refine HJ.out.1.mono ?_; rintro en t13 ⟨vj, rfl, h9⟩; have AJ := Lib.hid (h9.up (w3 := w2) D13.out); clear h9)
  refine ⟨by first | exact later_of (chg_of AJ.out.2) | exact fun _ => later_of (chg_of AJ.out.2), ?_⟩
  refine plan_group [false, false, false, false, false, false, false, false, false, false, false, false, false, false, false, false, false, false, false, false, false, false, false, false, false, false, false, false, false, false, false, false, false, false, false, false, false, false, false, true] [39] 0 (by dsimp only [sel]) (by rfl) rfl (by kernel_rfl) (by kernel_rfl) (later_of (chg_of AJ.out.2)) ?_
  (repeat go_big_quiet_step (fail)); refine wpQuiet_nil ?_
  refine wp_plan_end (by kernel_rfl) ?_
  refine hK5 _ _ ?_
  clear HS z0 z1 z2 z3 z4 z5 z6 z7 z8 z9 z10 z11 zl D0 D1 D2 D3 D4 D5 D6 D7 D8 D9 D10 D11 D12 D13
  have hw2up : Below w.heap.size w w2 := HUP.out _ C2.out
  have HW2 := Lib.hid hw2up; clear hw2up
  obtain ⟨n, hn⟩ : ∃ n, n = r.names.length := ⟨_, rfl⟩
  have HN := Lib.hid hn
  have hcn : n ≤ cn := by rw [hn]; exact H.out.2.2.2.2.1
  rw [← hn] at hn30
  clear hn
  go_wp2_with fail
  go_loopw [5, 6] (fun v i wx => ∃ j : Nat, j ≤ n ∧ i = .int .i64 (j : Int) ∧ Acc w2 v ((qc.parts r).flatten ++ pq.texts (r.names.take j)) wx) (fun _ i _ => n - (intOf i).toNat)
  case atStart => exact ⟨0, by omega, rfl, by rw [List.take_zero, show pq.texts [] = [] from rfl, List.append_nil]; exact AJ.out⟩
  case round =>
    obtain ⟨j, hj, rfl, hacc⟩ := hrel
    have hck := chg_of (P := fun _ => False) hacc.2
    have hbk := hck.blk (C2.out.blk HB.out.1 fun q => q) fun q => q
    have y11 := hbk.cell 11 (v := .slice An r.names.length cn) rfl
    have y12 := hbk.cell 12 (v := .slice Ad r.data.length cd) rfl
    have yl := hbk.lt
    rw [← HN.out] at y11
    clear hbk hck
    by_cases hlt : j < n
    · have hlt' : (j : Int) < (n : Int) := by omega
      obtain ⟨s, hs⟩ : ∃ s, r.names[j]? = some s := ⟨_, List.getElem?_eq_getElem (by rw [← HN.out]; exact hlt)⟩
      obtain ⟨b, off, hA, hbl, hc⟩ := (H.out.1.below (HW2.out.trans (hacc.2.mono HW2.out.size)) (Nat.le_refl _)) (show 0 < r.names.length by rw [← HN.out]; omega)
      have hcj := hc j (by rw [← HN.out]; exact hlt)
      dsimp only at hcj
      rw [show r.names.getD j ByteArray.empty = s by simp [List.getD, hs]] at hcj
      subst hA
      have hs100 := H.out.2.1 s (List.mem_of_getElem? hs)
      have hts : pq.texts (r.names.take (j + 1)) = pq.texts (r.names.take j) ++ pq.text s := pq.texts_succ hs
      have hlen : ((qc.parts r).flatten ++ pq.texts (r.names.take j)).length + (pq.text s).length ≤ 131072 := by
        have h1 := HJ.out.2.1
        have h2 : (pq.texts (r.names.take (j + 1))).length ≤ (pq.texts r.names).length := by
          have : pq.texts r.names = pq.texts (r.names.take (j + 1)) ++ pq.texts (r.names.drop (j + 1)) := by
            unfold pq.texts
            rw [← List.flatten_append, ← List.map_append, List.take_append_drop]
          rw [this, List.length_append]
          omega
        rw [hts, List.length_append] at h2
        rw [List.length_append]
        omega
      have HJ2 := Lib.hid (And.intro hacc (And.intro hs100 (And.intro hts hlen))); clear hacc hs100 hts hlen hc hs
      go_wp2_with (first
        | (go_at_call 36; refine (qc.text_any s _ HJ2.out.2.1).mono ?_; rintro en x1 ⟨vt, rfl, h9⟩; obtain ⟨At, ct, rfl, -, hatt⟩ := h9.at'; have HT := Lib.hid (And.intro hatt (HJ2.out.1.keep h9.2)); clear h9 hatt)
        | (at_builtin; refine wpList_acc rfl (.tmp 58) (.tmp 64) rfl _ _ rfl HT.out.2 At _ ct (pq.text s) rfl rfl HT.out.1 (by have := HJ2.out.2.2.2; omega) ?_; intro v' x2 hA2; rw [List.append_assoc, ← HJ2.out.2.2.1] at hA2; have HA2 := Lib.hid hA2; clear hA2))
      go_roundw
      case rel => exact ⟨j + 1, by omega, by go_num, HA2.out⟩
      case measure => simp [intOf]; omega
    · obtain rfl : n = j := by omega
      have h1 := hacc
      rw [HN.out, List.take_length] at h1
      have hdat := H.out.2.2.1.below (HW2.out.trans (hacc.2.mono HW2.out.size)) (Nat.le_refl _)
      obtain ⟨dd, hdd⟩ : ∃ dd, dd = num.put r.data.length ++ r.data := ⟨_, rfl⟩
      have hl2 := HJ.out.2.1
      have hpb := qc.parts_bytes r
      rw [← hdd] at hl2 hpb
      have HF := Lib.hid (And.intro h1 (And.intro hdat (And.intro hl2 (And.intro hdd hpb)))); clear h1 hdat hacc hlt hdd hl2 hpb
      go_wp2_with (first
        | (go_at_call 38; refine (ref.bytes_any Ad r.data.length cd r.data _ rfl HF.out.2.1 (by omega)).mono ?_; rintro en x1 ⟨vt, rfl, h9⟩; rw [← HF.out.2.2.2.1] at h9; obtain ⟨At, ct, rfl, -, hatt⟩ := h9.at'; have HT := Lib.hid (And.intro hatt (HF.out.1.keep h9.2)); clear h9 hatt)
        | (at_builtin; refine wpList_acc rfl (.tmp 66) (.tmp 69) rfl _ _ rfl HT.out.2 At _ ct dd rfl rfl HT.out.1 (by have := HF.out.2.2.1; rw [List.length_append]; omega) ?_; intro v' x2 hA2; rw [HF.out.2.2.2.2] at hA2; have HA2 := Lib.hid (hA2.up HW2.out); clear hA2))
      go_ret2
      exact ⟨_, rfl, HA2.out⟩
/-- What the document's Encode says of any request. -/
theorem qc.encode_any (r : PReq) (An : Option Addr) (cn : Nat) (Ad : Option Addr) (cd : Nat) (w : World) (h : ReqV w An cn Ad cd r) :
    Calls Try.prog 11 #[.agg (r.cells An cn Ad cd)] w fun e w' => ∃ v, e = .returned (.tuple #[v, .int .i64 (pq.check r)]) ∧ Acc w v (if pq.check r = 0 then pq.bytes r else []) w' := by
  by_cases h0 : pq.check r = 0
  · rw [if_pos h0, h0]
    exact qc.encode_ok r An cn Ad cd w h h0
  · rw [if_neg h0]
    have hchk := fun wx (hb : Below w.heap.size w wx) => qc.check_any r An cn Ad cd wx (h.below hb (Nat.le_refl _))
    unfold PReq.cells at hchk ⊢
    obtain ⟨k, hk⟩ : ∃ k, k = pq.check r := ⟨_, rfl⟩
    rw [← hk] at hchk h0 ⊢
    clear hk h
    have d1 : (k == 0) = false := by simp [h0]
    have d2 : (k != 0) = true := by simp [h0]
    clear h0
    obtain ⟨b0, hb0⟩ : ∃ b, b = w.heap.size := ⟨_, rfl⟩
    obtain ⟨w1, hw1⟩ : ∃ w1, w1 = w.alloc (.cells #[.int .i64 r.kind, .int .i64 r.corr, .string r.client, .string r.topic, .int .i64 r.part, .int .i64 r.off, .int .i64 r.time, .int .i64 r.most, .string r.group, .string r.member, .int .i64 r.gen, .slice An r.names.length cn, .slice Ad r.data.length cd] 25) := ⟨_, rfl⟩
    have hk0 : Blk w1 b0 25 #[.int .i64 r.kind, .int .i64 r.corr, .string r.client, .string r.topic, .int .i64 r.part, .int .i64 r.off, .int .i64 r.time, .int .i64 r.most, .string r.group, .string r.member, .int .i64 r.gen, .slice An r.names.length cn, .slice Ad r.data.length cd] := by rw [hw1, hb0]; exact Blk.new _ _ _
    have hbw : Below w.heap.size w w1 := by rw [hw1]; exact (Below.refl _ _).alloc (Nat.le_refl _) _
    have HB := Lib.hid (And.intro hbw hchk); clear hbw hchk
    go_enter Try.func11, Try.ntmps11
    go_upto_region 1 with fail
    rw [← hw1, ← hb0]
    clear hw1 hb0
    have yu0 := hk0.cell 0 (v := .int .i64 r.kind) rfl
    have yu1 := hk0.cell 1 (v := .int .i64 r.corr) rfl
    have yu2 := hk0.cell 2 (v := .string r.client) rfl
    have yu3 := hk0.cell 3 (v := .string r.topic) rfl
    have yu4 := hk0.cell 4 (v := .int .i64 r.part) rfl
    have yu5 := hk0.cell 5 (v := .int .i64 r.off) rfl
    have yu6 := hk0.cell 6 (v := .int .i64 r.time) rfl
    have yu7 := hk0.cell 7 (v := .int .i64 r.most) rfl
    have yu8 := hk0.cell 8 (v := .string r.group) rfl
    have yu9 := hk0.cell 9 (v := .string r.member) rfl
    have yu10 := hk0.cell 10 (v := .int .i64 r.gen) rfl
    have yu11 := hk0.cell 11 (v := .slice An r.names.length cn) rfl
    have yu12 := hk0.cell 12 (v := .slice Ad r.data.length cd) rfl
    have yul := hk0.lt
    clear hk0
    go_wp2_with (go_at_call 33; refine (HB.out.2 w1 HB.out.1).mono ?_; rintro en w2 ⟨rfl, h9⟩; have C2 := Lib.hid (HB.out.1.trans (h9.mono HB.out.1.size)); clear h9)
    go_ret2
    exact ⟨_, rfl, World.ownsRow_nil _ _ _ _, C2.out⟩
end
end Go.Proofs.Ytimcpbbcealkiaa

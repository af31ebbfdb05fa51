/- The walk of the law QuotaApart. -/
import Derived.Test.YtmlkgealjbjlgaaQuL
namespace Go.Proofs.Ytmlkgealjbjlgaa
open Go.RowKit Go.Maps

/-- No quota: nobody is refused, nothing is left, there is no waiting. -/
theorem qu.use_nil (s : ByteArray) (n now : Int) (w : World) :
    Calls Try.prog 28 #[.pointer none, .string s, .int .i64 n, .int .i64 now] w fun e w' => e = .returned (.int .i64 (if n < 0 then 1 else 0)) ∧ w' = w := by
  by_cases h : n < 0
  · rw [if_pos h]
    go_enter Try.func28, Try.ntmps28
    go_wp2_with fail
    go_ret
    exact ⟨rfl, rfl⟩
  · rw [if_neg h]
    go_enter Try.func28, Try.ntmps28
    go_wp2_with fail
    go_ret
    exact ⟨rfl, rfl⟩
theorem qu.left_nil (s : ByteArray) (now : Int) (w : World) :
    Calls Try.prog 30 #[.pointer none, .string s, .int .i64 now] w fun e w' => e = .returned (.int .i64 0) ∧ w' = w := by
  go_enter Try.func30, Try.ntmps30
  go_wp2_with fail
  go_ret
  exact ⟨rfl, rfl⟩
theorem qu.wait_nil (s : ByteArray) (n now : Int) (w : World) :
    Calls Try.prog 29 #[.pointer none, .string s, .int .i64 n, .int .i64 now] w fun e w' => e = .returned (.tuple #[.int .i64 0, .bool false]) ∧ w' = w := by
  go_enter Try.func29, Try.ntmps29
  go_wp2_with fail
  go_ret2
  exact ⟨rfl, rfl⟩

/-- The name of the client k. -/
def ap.name (k : Nat) : ByteArray := strOf [97 + k / 26, 97 + k % 26]
theorem ap.name_inj {j k : Nat} (hj : j < 100) (hk : k < 100) (h : ap.name j = ap.name k) : j = k := by
  have := strOf_inj (by intro x hx; simp at hx; omega) (by intro x hx; simp at hx; omega) h
  simp only [List.cons.injEq] at this
  omega
theorem ap.name_size (k : Nat) : (ap.name k).size ≤ maxLen := by unfold ap.name; rw [strOf_size]; simp [maxLen]
/-- What the first k clients have left. -/
def ap.g : Nat → ByteArray → Option Int
  | 0 => fun _ => none
  | k + 1 => qu.set 10 (ap.g k) (ap.name k) 3
theorem ap.g_none {k j : Nat} (hk : k ≤ j) (hj : j < 100) : ap.g k (ap.name j) = none := by
  induction k with
  | zero => rfl
  | succ k ih =>
    have := ih (by omega)
    unfold ap.g qu.set
    rw [if_neg (fun e => by have := ap.name_inj hj (by omega) e; omega)]
    exact this
theorem ap.g_ok (k : Nat) : ∀ s c, ap.g k s = some c → 0 ≤ c ∧ c < 10 := by
  induction k with
  | zero => intro s c h; cases h
  | succ k ih =>
    intro s c h
    unfold ap.g qu.set at h
    split at h
    · rw [if_neg (by decide)] at h; cases h; decide
    · exact ih s c h
theorem ap.ok (M : Int) (k : Nat) (h : 1 ≤ M ∧ M ≤ 50) : QOk 0 10 M 0 (ap.g k) := ⟨by omega, by omega, by omega, by omega, by omega, by omega, by omega, by omega, ap.g_ok k⟩
theorem ap.stay (k : Nat) : qu.after 0 10 (qu.to 0 0 - 0) (ap.g k) = ap.g k := by
  rw [show qu.to 0 0 - 0 = 0 by decide]
  exact qu.after_zero (ap.g_ok k)

theorem IsKeys.add {g : ByteArray → Option Int} {ks : List ByteArray} {s : ByteArray} (h : IsKeys g ks) (hg : g s = none) (hs : s.size ≤ maxLen) : IsKeys (qu.set 10 g s 3) (s :: ks) := by
  refine ⟨List.nodup_cons.2 ⟨fun hm => ?_, h.1⟩, fun u => ?_⟩
  · have := ((h.2 _).1 hm).2
    rw [hg] at this
    cases this
  · unfold qu.set
    rw [List.mem_cons, h.2 u]
    by_cases e : u = s
    · rw [if_pos e, if_neg (by decide)]
      exact ⟨fun _ => ⟨by rw [e]; exact hs, rfl⟩, fun _ => .inl e⟩
    · rw [if_neg e]
      exact ⟨fun h => h.elim (fun h => absurd h e) id, .inr⟩
theorem ap.keys (k : Nat) (hk : k ≤ 100) : ∃ ks, IsKeys (ap.g k) ks ∧ ks.length = k := by
  induction k with
  | zero => exact ⟨[], ⟨List.nodup_nil, fun s => by simp [ap.g]⟩, rfl⟩
  | succ k ih =>
    obtain ⟨ks, hks, hl⟩ := ih (by omega)
    exact ⟨_, hks.add (ap.g_none (Nat.le_refl k) (show k < 100 by omega)) (ap.name_size k), by rw [List.length_cons, hl]⟩
theorem ap.uniq {W : World} {b N k : Nat} (hk : k ≤ 100) (h : SM W b N (ap.g k)) : N = k := by
  obtain ⟨ks, hk1, hl1⟩ := ap.keys k hk
  obtain ⟨ks', hk2, hl2⟩ := h.keys
  rw [← hl1, ← hl2]
  exact hk2.length hk1 fun _ _ => rfl

/-- The quota of the law, once k clients are known. -/
def AP (w : World) (p b : Nat) (M : Int) (k : Nat) : Prop := QM w p b 0 10 M 0 k (ap.g k)
theorem AP.left (p b : Nat) (M : Int) (k j : Nat) (w : World) (h : AP w p b M k) (hM : 1 ≤ M ∧ M ≤ 50) (hk : k ≤ j) (hj : j < 100) :
    Calls Try.prog 30 #[.pointer (some ⟨p, 0, none⟩), .string (ap.name j), .int .i64 0] w fun e w' => e = .returned (.int .i64 10) ∧ AP w' p b M k ∧ Chg w w' (quT p b) := by
  refine (qu.left_any p b 0 10 M 0 k (ap.g k) (ap.name j) 0 w h (ap.ok M k hM) (by omega) (ap.name_size j) (by omega)).mono ?_
  rintro e w' ⟨rfl, N', hq, hN', hch⟩
  rw [ap.stay] at hq ⊢
  rw [ap.g_none hk hj]
  obtain rfl : N' = k := ap.uniq (by omega) hq.map
  exact ⟨rfl, hq, hch⟩
theorem AP.use0 (p b : Nat) (M : Int) (k : Nat) (s : ByteArray) (w : World) (h : AP w p b M k) (hM : 1 ≤ M ∧ M ≤ 50) (hk : k ≤ 100) (hs : s.size ≤ maxLen) :
    Calls Try.prog 28 #[.pointer (some ⟨p, 0, none⟩), .string s, .int .i64 0, .int .i64 0] w fun e w' => e = .returned (.int .i64 0) ∧ AP w' p b M k ∧ Chg w w' (quT p b) := by
  refine (qu.use_any p b 0 10 M 0 k (ap.g k) s 0 0 w h (ap.ok M k hM) (by omega) hs (by omega) (by omega)).mono ?_
  rintro e w' ⟨N', hN', hch, h0⟩
  rcases h0 with ⟨h0, -⟩ | ⟨-, rfl, hq⟩ | ⟨h0, -⟩ | ⟨h0, -⟩
  · omega
  · rw [ap.stay] at hq
    obtain rfl : N' = k := ap.uniq (by omega) hq.map
    exact ⟨rfl, hq, hch⟩
  · omega
  · omega
theorem AP.use7 (p b : Nat) (M : Int) (k j : Nat) (w : World) (h : AP w p b M k) (hM : 1 ≤ M ∧ M ≤ 50) (hk : (k : Int) = min (j : Int) M) (hj : j < 100) :
    Calls Try.prog 28 #[.pointer (some ⟨p, 0, none⟩), .string (ap.name j), .int .i64 7, .int .i64 0] w fun e w' => e = .returned (.int .i64 (if M ≤ (j : Int) then 15 else 0)) ∧ AP w' p b M (if M ≤ (j : Int) then k else k + 1) ∧ Chg w w' (quT p b) := by
  refine (qu.use_any p b 0 10 M 0 k (ap.g k) (ap.name j) 7 0 w h (ap.ok M k hM) (by omega) (ap.name_size j) (by omega) (by omega)).mono ?_
  rintro e w' ⟨N', hN', hch, h0⟩
  rw [ap.stay] at h0
  rw [ap.g_none (show k ≤ j by omega) hj, Option.getD_none] at h0
  rcases h0 with ⟨h0, -⟩ | ⟨h0, -⟩ | ⟨-, h1, rfl, hq⟩ | ⟨-, -, h1, rfl, hq⟩
  · omega
  · omega
  · have := ap.uniq (by omega) hq.map
    subst this
    have hMj : M ≤ (j : Int) := by omega
    rw [if_pos hMj, if_pos hMj]
    exact ⟨rfl, hq, hch⟩
  · have hN := h1 rfl
    have hq' : QM w' p b 0 10 M (qu.to 0 0) (qu.cnt 10 N' (ap.g k) (ap.name j) (10 - 7)) (qu.set 10 (ap.g k) (ap.name j) 3) := hq
    have hc : qu.cnt 10 N' (ap.g k) (ap.name j) (10 - 7) = N' + 1 := by
      unfold qu.cnt
      rw [if_neg (by decide), ap.g_none (show k ≤ j by omega) hj]
      rfl
    rw [hc] at hq'
    obtain ⟨ks, hk1, hl1⟩ := ap.keys k (by omega)
    obtain ⟨ks', hk2, hl2⟩ := hq'.map.keys
    have hl3 := hk2.length (hk1.add (ap.g_none (show k ≤ j by omega) hj) (ap.name_size j)) fun _ _ => rfl
    rw [List.length_cons, hl1, hl2] at hl3
    have hMj : ¬ M ≤ (j : Int) := by omega
    obtain rfl : k = j := by omega
    rw [if_neg hMj, if_neg hMj]
    rw [hl3] at hq'
    exact ⟨rfl, hq', hch⟩

set_option maxRecDepth 20000 in
set_option maxHeartbeats 2000000 in
theorem qu.lawApart (M n : Int) (w : World) (hM : -9223372036854775808 ≤ M ∧ M ≤ 9223372036854775807) (hn : -9223372036854775808 ≤ n ∧ n ≤ 9223372036854775807) :
    Calls Try.prog 8 #[.int .i64 M, .int .i64 n] w fun e w' => e = .returned (.bool true) ∧ Below w.heap.size w w' := by
  by_cases h1 : M < 1
  · go_enter Try.func8, Try.ntmps8
    go_wp2_with fail
    refine (qu.awake_any w).mono ?_
    rintro e w1 ⟨rfl, hb1⟩
    go_wp2_with fail
    go_ret
    exact ⟨rfl, hb1⟩
  by_cases h2 : 50 < M
  · go_enter Try.func8, Try.ntmps8
    go_wp2_with fail
    refine (qu.awake_any w).mono ?_
    rintro e w1 ⟨rfl, hb1⟩
    go_wp2_with fail
    go_ret
    exact ⟨rfl, hb1⟩
  by_cases h3 : n < 0
  · go_enter Try.func8, Try.ntmps8
    go_wp2_with fail
    refine (qu.awake_any w).mono ?_
    rintro e w1 ⟨rfl, hb1⟩
    go_wp2_with fail
    go_ret
    exact ⟨rfl, hb1⟩
  by_cases h4 : 60 < n
  · go_enter Try.func8, Try.ntmps8
    go_wp2_with fail
    refine (qu.awake_any w).mono ?_
    rintro e w1 ⟨rfl, hb1⟩
    go_wp2_with fail
    go_ret
    exact ⟨rfl, hb1⟩
  obtain ⟨n', rfl⟩ := Int.eq_ofNat_of_zero_le (show 0 ≤ n by omega)
  go_enter Try.func8, Try.ntmps8
  go_wp2_with fail
  refine (qu.new_any 0 10 M w (by omega) (by omega) (by omega)).mono ?_
  rintro e w1 ⟨⟨p, b, rfl, hq, hp, hb⟩, hb1⟩
  have HB1 := Lib.hid hb1; clear hb1
  have HQ1 := Lib.hid (show AP w1 p b M 0 from hq); clear hq
  go_wp2_with fail
  go_loopw [7] (fun i wr => ∃ j k : Nat, j ≤ n' ∧ i = .int .i64 (j : Int) ∧ (k : Int) = min (j : Int) M ∧ AP wr p b M k ∧ Below w.heap.size w wr) (fun i _ => n' - (intOf i).toNat)
  case atStart => exact ⟨0, 0, by omega, rfl, by omega, HQ1.out, HB1.out⟩
  case round =>
    obtain ⟨j, k, hj, rfl, hk, hq, hbe⟩ := hrel
    have HBE := Lib.hid hbe; clear hbe
    have HQ := Lib.hid hq; clear hq
    by_cases hlt : j < n'
    · have hconv : (convert 24 9 (.slice (some ⟨wr.heap.size, 0, none⟩) 2 2)).run Try.prog (wr.alloc (.cells #[.int .u8 (97 + (j : Int) / 26), .int .u8 (97 + (j : Int) % 26)] 5)) = .ok (.string (ap.name j)) (wr.alloc (.cells #[.int .u8 (97 + (j : Int) / 26), .int .u8 (97 + (j : Int) % 26)] 5)) := by
        refine conv_any (c := 2) Try.underlying24 Try.underlying5 Try.underlying9 [97 + j / 26, 97 + j % 26] rfl ((At.new wr #[.int .u8 (97 + (j : Int) / 26), .int .u8 (97 + (j : Int) % 26)] 5 (n := 2) rfl).congr fun i hi => ?_)
        have hi' : i = 0 ∨ i = 1 := by omega
        rcases hi' with rfl | rfl
        · exact congrArg (Value.int .u8) (show (97 + (j : Int) / 26) = ((97 + j / 26 : Nat) : Int) by omega)
        · exact congrArg (Value.int .u8) (show (97 + (j : Int) % 26) = ((97 + j % 26 : Nat) : Int) by omega)
      have hba : Below w.heap.size w (wr.alloc (.cells #[.int .u8 (97 + (j : Int) / 26), .int .u8 (97 + (j : Int) % 26)] 5)) := HBE.out.alloc HBE.out.size _
      have hqa : AP (wr.alloc (.cells #[.int .u8 (97 + (j : Int) / 26), .int .u8 (97 + (j : Int) % 26)] 5)) p b M k := QM.keep HQ.out ((Below.refl _ wr).alloc (Nat.le_refl _) _)
      have HBA := Lib.hid hba; clear hba HBE
      have HQA := Lib.hid hqa; clear hqa HQ
      have hns := ap.name_size j
      have HNS := Lib.hid hns; clear hns
      by_cases hMj : M ≤ (j : Int)
      · go_wp2_with fail
        clear hconv
        generalize wr.alloc (.cells #[.int .u8 (97 + (j : Int) / 26), .int .u8 (97 + (j : Int) % 26)] 5) = wa at *
        refine (AP.left p b M k j wa HQA.out ⟨h1, h2⟩ (by omega) (by omega)).mono ?_
        rintro e w2 ⟨rfl, hq2, hch⟩
        have HB2 := Lib.hid (HBA.out.trans (quT_below hch HBA.out.size hp hb)); clear hch
        have HQ2 := Lib.hid hq2; clear hq2
        go_wp2_with fail
        refine (AP.use7 p b M k j w2 HQ2.out ⟨h1, h2⟩ hk (by omega)).mono ?_
        rintro e w3 ⟨rfl, hq3, hch⟩
        rw [if_pos hMj] at hq3 ⊢
        have HB3 := Lib.hid (HB2.out.trans (quT_below hch HB2.out.size hp hb)); clear hch
        have HQ3 := Lib.hid hq3; clear hq3
        go_wp2_with fail
        refine (AP.use0 p b M k (ap.name j) w3 HQ3.out ⟨h1, h2⟩ (by omega) HNS.out).mono ?_
        rintro e w4 ⟨rfl, hq4, hch⟩
        have HB4 := Lib.hid (HB3.out.trans (quT_below hch HB3.out.size hp hb)); clear hch
        have HQ4 := Lib.hid hq4; clear hq4
        go_wp2_with fail
        go_roundw
        case rel => exact ⟨j + 1, k, by omega, by go_num, by omega, HQ4.out, HB4.out⟩
        case measure => simp [intOf]; omega
      · go_wp2_with fail
        clear hconv
        generalize wr.alloc (.cells #[.int .u8 (97 + (j : Int) / 26), .int .u8 (97 + (j : Int) % 26)] 5) = wa at *
        refine (AP.left p b M k j wa HQA.out ⟨h1, h2⟩ (by omega) (by omega)).mono ?_
        rintro e w2 ⟨rfl, hq2, hch⟩
        have HB2 := Lib.hid (HBA.out.trans (quT_below hch HBA.out.size hp hb)); clear hch
        have HQ2 := Lib.hid hq2; clear hq2
        go_wp2_with fail
        refine (AP.use7 p b M k j w2 HQ2.out ⟨h1, h2⟩ hk (by omega)).mono ?_
        rintro e w3 ⟨rfl, hq3, hch⟩
        rw [if_neg (show ¬ M ≤ (j : Int) by omega)] at hq3 ⊢
        have HB3 := Lib.hid (HB2.out.trans (quT_below hch HB2.out.size hp hb)); clear hch
        have HQ3 := Lib.hid hq3; clear hq3
        go_wp2_with fail
        refine (AP.use0 p b M (k + 1) (ap.name j) w3 HQ3.out ⟨h1, h2⟩ (by omega) HNS.out).mono ?_
        rintro e w4 ⟨rfl, hq4, hch⟩
        have HB4 := Lib.hid (HB3.out.trans (quT_below hch HB3.out.size hp hb)); clear hch
        have HQ4 := Lib.hid hq4; clear hq4
        go_wp2_with fail
        go_roundw
        case rel => exact ⟨j + 1, k + 1, by omega, by go_num, by omega, HQ4.out, HB4.out⟩
        case measure => simp [intOf]; omega
    · obtain rfl : j = n' := by omega
      go_wp2_with fail
      refine (qu.wait_nil _ 1 0 wr).mono ?_
      rintro e w' ⟨rfl, rfl⟩
      go_wp2_with fail
      refine (qu.walk_any (some ⟨p, 0, none⟩) k 1000 w' (by omega) (by omega) (by omega) (.inr ⟨p, b, 0, 10, M, 0, ap.g k, rfl, HQ.out⟩)).mono ?_
      rintro e w2 ⟨⟨A2, c2, rfl⟩, hb2⟩
      rw [show min k (1000 : Int).toNat = k by omega]
      have HB2 := Lib.hid (HBE.out.trans (hb2.mono HBE.out.size)); clear hb2
      go_wp2_with fail
      refine (qu.use_nil _ 5 0 w2).mono ?_
      rintro e w' ⟨rfl, rfl⟩
      rw [if_neg (by decide)]
      go_wp2_with fail
      refine (qu.use_nil _ (-1) 0 _).mono ?_
      rintro e w' ⟨rfl, rfl⟩
      rw [if_pos (by decide)]
      go_wp2_with fail
      refine (qu.left_nil _ 0 _).mono ?_
      rintro e w' ⟨rfl, rfl⟩
      go_wp2_with fail
      refine (qu.walk_any none 0 5 _ (by omega) (by omega) (by omega) (.inl ⟨rfl, rfl⟩)).mono ?_
      rintro e w3 ⟨⟨A3, c3, rfl⟩, hb3⟩
      rw [show min 0 (5 : Int).toNat = 0 by omega]
      have HB3 := Lib.hid (HB2.out.trans (hb3.mono HB2.out.size)); clear hb3
      go_wp2_with fail
      refine (qu.awake_any w3).mono ?_
      rintro e w4 ⟨rfl, hb4⟩
      have HB4 := Lib.hid (HB3.out.trans (hb4.mono HB3.out.size)); clear hb4
      go_wp2_with fail
      go_ret
      exact ⟨rfl, HB4.out⟩
end Go.Proofs.Ytmlkgealjbjlgaa

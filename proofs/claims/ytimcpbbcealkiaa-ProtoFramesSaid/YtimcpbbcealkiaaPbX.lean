/- proto: what decodes is what was written; contracts for ProtoBack (PbK, PbA; chapter 20). -/
import Derived.Test.YtimcpbbcealkiaaPqD
import Derived.Test.YtimcpbbcealkiaaPaX
import Derived.Test.YtimcpbbcealkiaaPqK
namespace Go.Proofs.Ytimcpbbcealkiaa
section
open Go.RowKit
set_option maxRecDepth 20000

theorem pb.valF_inj : ∀ (L M : List Nat) (n m : Nat), L.length = M.length → (∀ x ∈ L, x < 256) → (∀ x ∈ M, x < 256) → wire.valF n L = wire.valF m M → n = m ∧ L = M
  | [], [], _, _, _, _, _, h => ⟨h, rfl⟩
  | [], _ :: _, _, _, hl, _, _, _ => by simp at hl
  | _ :: _, [], _, _, hl, _, _, _ => by simp at hl
  | x :: L, y :: M, n, m, hl, hL, hM, h => by
    have h1 : wire.valF (n * 256 + x) L = wire.valF (m * 256 + y) M := h
    obtain ⟨h2, h3⟩ := pb.valF_inj L M _ _ (by simpa using hl) (fun z hz => hL z (List.mem_cons_of_mem _ hz)) (fun z hz => hM z (List.mem_cons_of_mem _ hz)) h1
    have hx := hL x (List.mem_cons_self ..)
    have hy := hM y (List.mem_cons_self ..)
    have : x = y := by omega
    exact ⟨by omega, by rw [this, h3]⟩
theorem pb.val_inj {L M : List Nat} (hl : L.length = M.length) (hL : ∀ x ∈ L, x < 256) (hM : ∀ x ∈ M, x < 256) (h : wire.val L = wire.val M) : L = M := (pb.valF_inj L M 0 0 hl hL hM h).2

theorem pb.round (k n : Int) (hk : -9223372036854775808 ≤ k ∧ k ≤ 9223372036854775807) (hn : 0 < n) (hn2 : n ≤ 1099511627776) :
    ∃ r : Nat, (r : Int) < n ∧ ∀ w, Calls Try.prog 17 #[.int .i64 k, .int .i64 n] w fun e w' => e = .returned (.int .i64 (r : Int)) ∧ w = w' := by
  obtain ⟨k1, k2⟩ := hk
  have h1 := Int.tmod_lt_of_pos k hn
  have h2 : -n < k.tmod n := by
    have := Int.tmod_lt_of_pos (-k) hn
    rw [Int.neg_tmod] at this; omega
  have hne : n ≠ 0 := by omega
  by_cases hneg : k.tmod n < 0
  · refine ⟨(k.tmod n + n).toNat, by omega, fun w => ?_⟩
    go_enter Try.func17, Try.ntmps17
    go_wp2
    go_ret
    exact ⟨ret_num (by omega), rfl⟩
  · refine ⟨(k.tmod n).toNat, by omega, fun w => ?_⟩
    go_enter Try.func17, Try.ntmps17
    go_wp2
    go_ret
    exact ⟨ret_num (by omega), rfl⟩
theorem pb.gt_back (L : List Nat) (hL : ∀ x ∈ L, x < 256) : ∀ (k i acc a b : Nat), i + k = 10 → num.gt (fun j => L.getD j 0) L.length k i acc = some (a, b) →
    ∃ v, a = acc + v * 128 ^ i ∧ v < 2 * 128 ^ (9 - i) ∧ i < b ∧ b ≤ L.length ∧ (L.drop i).take (b - i) = num.dg (9 - i) v ∧ (v ≠ 0 ∨ i = 0)
  | 0, _, _, _, _, _, h => by cases h
  | k + 1, i, acc, a, b, hik, h => by
    unfold num.gt at h
    split at h
    · cases h
    · rename_i hn
      have hi : i < L.length := by omega
      obtain ⟨x, hx⟩ : ∃ x, L[i]? = some x := ⟨_, List.getElem?_eq_getElem hi⟩
      have hxe : L.getD i 0 = x := by simp [List.getD, hx]
      have hx8 : x < 256 := hL x (List.mem_of_getElem? hx)
      have hdrop : L.drop i = x :: L.drop (i + 1) := by
        obtain ⟨h1, h2⟩ := List.getElem?_eq_some_iff.1 hx
        rw [← h2, List.drop_eq_getElem_cons h1]
      simp only [hxe] at h
      split at h
      · cases h
      · rename_i h9
        split at h
        · rename_i hge
          cases k with
          | zero => cases h
          | succ k =>
            obtain ⟨v, h1, h2, h3, h4, h5, h6⟩ := pb.gt_back L hL (k + 1) (i + 1) _ a b (by omega) h
            have hv : v ≠ 0 := by omega
            have e9 : 9 - i = (9 - (i + 1)) + 1 := by omega
            refine ⟨x % 128 + 128 * v, ?_, ?_, by omega, h4, ?_, .inl (by omega)⟩
            · rw [h1, Nat.pow_succ, Nat.add_mul, Nat.add_assoc, Nat.mul_comm (128 ^ i) 128, ← Nat.mul_assoc, Nat.mul_comm v 128]
            · rw [e9, Nat.pow_succ]
              generalize 128 ^ (9 - (i + 1)) = p at h2
              omega
            · rw [e9, num.dg_up _ _ (by omega), show (x % 128 + 128 * v) % 128 + 128 = x by omega, show (x % 128 + 128 * v) / 128 = v by omega, ← h5, hdrop, show b - i = (b - (i + 1)) + 1 by omega]
              rfl
        · rename_i hlt
          split at h
          · cases h
          · rename_i h0
            obtain ⟨rfl, rfl⟩ : acc + x % 128 * 128 ^ i = a ∧ i + 1 = b := by simpa using h
            have hxm : x % 128 = x := by omega
            refine ⟨x, by rw [hxm], ?_, by omega, by omega, ?_, by omega⟩
            · by_cases hi9 : i = 9
              · subst hi9
                have : ¬ 1 < x % 128 := fun hh => h9 ⟨rfl, hh⟩
                show x < 2 * 128 ^ 0
                omega
              · have e9 : 9 - i = (8 - i) + 1 := by omega
                rw [e9, Nat.pow_succ]
                have : 0 < 128 ^ (8 - i) := Nat.pow_pos (by decide)
                omega
            · rw [num.dg_low _ _ (by omega), hdrop, show i + 1 - i = 1 by omega]
              rfl
theorem pb.zig_zag (u : Nat) : (num.zig (num.zag (u : Int))).toNat = u := by unfold num.zig num.zag; split <;> split <;> omega
theorem pb.be_val {M : List Nat} (hM : ∀ x ∈ M, x < 256) : wire.be (wire.val M) M.length = M := by
  have h1 := wire.val_be (wire.val M) M.length (wire.val_lt M hM)
  exact pb.val_inj (wire.be_len _ _) (wire.be_byte _ _) hM h1
theorem rd.num_sub {L : List Nat} {e : Int} : ∀ x ∈ (rd.num L e).2.1, x ∈ L := fun y hy => by
  unfold rd.num at hy
  split at hy
  · exact hy
  · split at hy
    · cases hy
    · exact List.mem_of_mem_drop hy
theorem rd.piece_sub {L : List Nat} {e most : Int} : ∀ x ∈ (rd.piece L e most).2.1, x ∈ L := fun y hy => by
  unfold rd.piece rd.cut at hy
  split at hy
  · exact rd.num_sub y hy
  · split at hy
    · cases hy
    · split at hy
      · cases hy
      · exact rd.num_sub y (List.mem_of_mem_drop hy)
theorem rd.fixed_sub {L : List Nat} {e s : Int} : ∀ x ∈ (rd.fixed L e s).2.1, x ∈ L := fun y hy => by
  unfold rd.fixed at hy
  split at hy
  · exact hy
  · split at hy
    · cases hy
    · exact List.mem_of_mem_drop hy
/-- What is read as a number is the number's form. -/
theorem pb.num_back {L : List Nat} (hL : ∀ x ∈ L, x < 256) {e n : Int} {Z : List Nat} (h : rd.num L e = (n, Z, 0)) : e = 0 ∧ L = num.put n ++ Z ∧ pq.int n := by
  have hbd := rd.num_bd L e
  rw [h] at hbd
  unfold rd.num at h
  by_cases he : e = 0
  · rw [if_neg (fun q => q he)] at h
    refine ⟨he, ?_, hbd⟩
    cases hg : num.getL L with
    | none => rw [hg] at h; simp at h
    | some p =>
      obtain ⟨u, k⟩ := p
      rw [hg] at h
      obtain ⟨rfl, rfl⟩ : num.zag u = n ∧ L.drop k = Z := by simpa using h
      obtain ⟨v, h1, h2, h3, h4, h5, -⟩ := pb.gt_back L hL 10 0 0 u k rfl hg
      have hv : u = v := by rw [h1]; simp
      subst hv
      have hp : num.put (num.zag (u : Int)) = L.take k := by
        unfold num.put
        rw [pb.zig_zag]
        have := h5
        rw [List.drop_zero, Nat.sub_zero, Nat.sub_zero] at this
        exact this.symm
      rw [hp, List.take_append_drop]
  · rw [if_pos he] at h
    have : e = 0 := by injection h with _ h2; injection h2
    exact absurd this he
theorem pb.piece_back {L : List Nat} (hL : ∀ x ∈ L, x < 256) {e most : Int} {B Z : List Nat} (h : rd.piece L e most = (B, Z, 0)) : e = 0 ∧ L = num.put B.length ++ (B ++ Z) ∧ (B.length : Int) ≤ most := by
  unfold rd.piece at h
  obtain ⟨⟨n, M, e1⟩, hq⟩ : ∃ q, rd.num L e = q := ⟨_, rfl⟩
  rw [hq] at h
  dsimp only at h
  unfold rd.cut at h
  split at h
  · rename_i h1
    have : e1 = 0 := by injection h with _ h2; injection h2
    exact absurd this h1
  · rename_i h1
    have h1 : e1 = 0 := Classical.not_not.1 h1
    subst h1
    split at h
    · injection h with _ h2; injection h2 with _ h3; cases h3
    · rename_i h2
      split at h
      · injection h with _ h3; injection h3 with _ h4; cases h4
      · rename_i h3
        obtain ⟨g1, g2, -⟩ := pb.num_back hL hq
        obtain ⟨k, rfl⟩ := Int.eq_ofNat_of_zero_le (show 0 ≤ n by omega)
        rw [Int.toNat_natCast] at h
        injection h with h4 h5
        injection h5 with h5 _
        have hk : k ≤ M.length := by omega
        have hB : B.length = k := by rw [← h4, List.length_take]; omega
        refine ⟨g1, ?_, by omega⟩
        rw [hB, g2, ← h4, ← h5, List.take_append_drop]
theorem pb.fixed_back {L : List Nat} (hL : ∀ x ∈ L, x < 256) {e x : Int} {s : Nat} {Z : List Nat} (h : rd.fixed L e s = (x, Z, 0)) : e = 0 ∧ L = wire.be x.toNat s ++ Z ∧ 0 ≤ x ∧ x < 256 ^ s := by
  unfold rd.fixed at h
  split at h
  · rename_i h1
    have : e = 0 := by injection h with _ h2; injection h2
    exact absurd this h1
  · rename_i h1
    split at h
    · injection h with _ h2; injection h2 with _ h3; cases h3
    · rename_i h2
      rw [Int.toNat_natCast] at h
      injection h with h3 h4
      injection h4 with h4 _
      have hs : s ≤ L.length := by unfold rd.fbad at h2; omega
      have hl : (L.take s).length = s := by rw [List.length_take]; omega
      have hb : ∀ x ∈ L.take s, x < 256 := fun x hx => hL x (List.mem_of_mem_take hx)
      have hv := wire.val_lt _ hb
      rw [hl] at hv
      have hbe := pb.be_val hb
      rw [hl] at hbe
      refine ⟨Classical.not_not.1 h1, ?_, by omega, ?_⟩
      · rw [← h3, Int.toNat_natCast, hbe, ← h4, List.take_append_drop]
      · rw [← h3]
        exact_mod_cast hv
theorem pb.text_strOf {B : List Nat} (hB : ∀ x ∈ B, x < 256) : pq.text (strOf B) = num.put B.length ++ B := by
  unfold pq.text
  rw [strNats_strOf B hB, strOf_size]
theorem pb.texts_back : ∀ (k : Nat) (L : List Nat) (e : Int) (l : List ByteArray) (Z : List Nat), (∀ x ∈ L, x < 256) → rd.texts k L e = (l, Z, 0) → e = 0 ∧ L = pq.texts l ++ Z ∧ (∀ s ∈ l, s.size ≤ 100) ∧ l.length = k
  | 0, L, e, l, Z, _, h => by
    unfold rd.texts at h
    injection h with h1 h2
    injection h2 with h2 h3
    subst h1
    subst h2
    exact ⟨h3, by simp [pq.texts], (fun s hs => by cases hs), rfl⟩
  | k + 1, L, e, l, Z, hL, h => by
    unfold rd.texts at h
    obtain ⟨⟨B, M, e1⟩, hq⟩ : ∃ q, rd.piece L e 100 = q := ⟨_, rfl⟩
    rw [hq] at h
    dsimp only at h
    obtain ⟨⟨l1, Z1, e2⟩, hq2⟩ : ∃ q, rd.texts k M e1 = q := ⟨_, rfl⟩
    rw [hq2] at h
    dsimp only at h
    injection h with h1 h2
    injection h2 with h2 h3
    subst h1
    subst h2
    subst h3
    have hM : ∀ x ∈ M, x < 256 := by
      have hm := rd.piece_sub (L := L) (e := e) (most := 100)
      rw [hq] at hm
      exact fun x hx => hL x (hm x hx)
    obtain ⟨rfl, g2, g3, g4⟩ := pb.texts_back k M e1 l1 Z1 hM hq2
    obtain ⟨k1, k2, k3⟩ := pb.piece_back hL hq
    have hB : ∀ x ∈ B, x < 256 := fun x hx => hL x (by rw [k2]; simp [hx])
    refine ⟨k1, ?_, fun s hs => ?_, by rw [List.length_cons, g4]⟩
    · rw [k2, g2]
      show _ = (pq.text (strOf B) ++ pq.texts l1) ++ Z1
      rw [pb.text_strOf hB]
      simp only [List.append_assoc]
    · rcases List.mem_cons.1 hs with rfl | hs
      · rw [strOf_size]; omega
      · exact g3 s hs
theorem pb.list_back {L : List Nat} (hL : ∀ x ∈ L, x < 256) {most e : Int} {l : List ByteArray} {Z : List Nat} (h : pq.list most L e = (l, Z, 0)) : e = 0 ∧ L = num.put l.length ++ (pq.texts l ++ Z) ∧ (∀ s ∈ l, s.size ≤ 100) ∧ (l.length : Int) ≤ most := by
  unfold pq.list at h
  obtain ⟨⟨n, M, e1⟩, hq⟩ : ∃ q, rd.num L e = q := ⟨_, rfl⟩
  rw [hq] at h
  dsimp only at h
  split at h
  · injection h with _ h2; injection h2 with _ h3; cases h3
  · rename_i h1
    have hM : ∀ x ∈ M, x < 256 := by
      have hm := rd.num_sub (L := L) (e := e)
      rw [hq] at hm
      exact fun x hx => hL x (hm x hx)
    obtain ⟨rfl, g2, g3, g4⟩ := pb.texts_back _ M e1 l Z hM h
    obtain ⟨k1, k2, -⟩ := pb.num_back hL hq
    have hn : (l.length : Int) = n := by omega
    exact ⟨k1, by rw [hn, k2, g2], g3, by omega⟩
theorem pb.long_ok {l : List ByteArray} (h : ∀ s ∈ l, s.size ≤ 100) : pq.long l = false := by
  unfold pq.long
  rw [List.any_eq_false]
  intro s hs
  have := h s hs
  simp
  omega
/-- What decodes is what was written. -/
theorem pb.dec_back {L : List Nat} (hL : ∀ x ∈ L, x < 256) (h : (pq.dec L).2.2 = 0) : (pq.dec L).1.fit ∧ pq.check (pq.dec L).1 = 0 ∧ L = pq.bytes (pq.dec L).1 ∧ (pq.dec L).2.1 = (pq.dec L).1.corr := by
  obtain ⟨R, hR⟩ : ∃ R, R = pq.dec L := ⟨_, rfl⟩
  rw [← hR] at h ⊢
  unfold pq.dec at hR
  obtain ⟨⟨kd, L1, e1⟩, hq1⟩ : ∃ q, rd.fixed L 0 2 = q := ⟨_, rfl⟩
  rw [hq1] at hR
  dsimp only at hR
  obtain ⟨⟨co, L2, e2⟩, hq2⟩ : ∃ q, rd.fixed L1 e1 4 = q := ⟨_, rfl⟩
  rw [hq2] at hR
  dsimp only at hR
  by_cases c1 : 131072 < L.length
  · rw [if_pos c1] at hR; rw [hR] at h; cases h
  rw [if_neg c1] at hR
  by_cases c2 : L.length < 6
  · rw [if_pos c2] at hR; rw [hR] at h; cases h
  rw [if_neg c2] at hR
  by_cases c3 : kd < 1 ∨ 14 < kd
  · rw [if_pos c3] at hR; rw [hR] at h; cases h
  rw [if_neg c3] at hR
  by_cases c4 : 2147483647 < co
  · rw [if_pos c4] at hR; rw [hR] at h; cases h
  rw [if_neg c4, if_neg c4] at hR
  by_cases c5 : (pq.rest kd co L2 e2).2 = 0
  case neg => rw [if_pos c5] at hR; rw [hR] at h; exact absurd h c5
  rw [if_neg (fun q => q c5)] at hR
  subst hR
  clear h
  dsimp only
  obtain ⟨T, hT⟩ : ∃ T, T = pq.rest kd co L2 e2 := ⟨_, rfl⟩
  rw [← hT] at c5 ⊢
  unfold pq.rest at hT
  obtain ⟨⟨B0, M0, f0⟩, q0⟩ : ∃ q, rd.piece L2 e2 100 = q := ⟨_, rfl⟩
  obtain ⟨⟨B1, M1, f1⟩, q1⟩ : ∃ q, rd.piece M0 f0 100 = q := ⟨_, rfl⟩
  obtain ⟨⟨n2, M2, f2⟩, q2⟩ : ∃ q, rd.num M1 f1 = q := ⟨_, rfl⟩
  obtain ⟨⟨n3, M3, f3⟩, q3⟩ : ∃ q, rd.num M2 f2 = q := ⟨_, rfl⟩
  obtain ⟨⟨n4, M4, f4⟩, q4⟩ : ∃ q, rd.num M3 f3 = q := ⟨_, rfl⟩
  obtain ⟨⟨n5, M5, f5⟩, q5⟩ : ∃ q, rd.num M4 f4 = q := ⟨_, rfl⟩
  obtain ⟨⟨B6, M6, f6⟩, q6⟩ : ∃ q, rd.piece M5 f5 100 = q := ⟨_, rfl⟩
  obtain ⟨⟨B7, M7, f7⟩, q7⟩ : ∃ q, rd.piece M6 f6 100 = q := ⟨_, rfl⟩
  obtain ⟨⟨n8, M8, f8⟩, q8⟩ : ∃ q, rd.num M7 f7 = q := ⟨_, rfl⟩
  obtain ⟨⟨ns, M9, f9⟩, q9⟩ : ∃ q, pq.list 30 M8 f8 = q := ⟨_, rfl⟩
  obtain ⟨⟨D, M10, f10⟩, q10⟩ : ∃ q, rd.piece M9 0 65536 = q := ⟨_, rfl⟩
  simp only [q0, q1, q2, q3, q4, q5, q6, q7, q8, q9, q10] at hT
  by_cases c6 : f9 = 0
  case neg => rw [if_pos c6] at hT; rw [hT] at c5; exact absurd c5 c6
  subst c6
  rw [if_neg (by simp)] at hT
  have c7 : M10 = [] ∧ f10 = 0 := by
    rw [hT] at c5
    dsimp only at c5
    split at c5
    · cases c5
    · rename_i hz
      exact ⟨List.eq_nil_of_length_eq_zero (by omega), c5⟩
  obtain ⟨rfl, rfl⟩ := c7
  have b1 : ∀ x ∈ L1, x < 256 := fun x hx => hL x (rd.fixed_sub (L := L) (e := 0) (s := 2) x (by rw [hq1]; exact hx))
  have b2 : ∀ x ∈ L2, x < 256 := fun x hx => b1 x (rd.fixed_sub (L := L1) (e := e1) (s := 4) x (by rw [hq2]; exact hx))
  have m0 : ∀ x ∈ M0, x < 256 := fun x hx => b2 x (rd.piece_sub (L := L2) (e := e2) (most := 100) x (by rw [q0]; exact hx))
  have m1 : ∀ x ∈ M1, x < 256 := fun x hx => m0 x (rd.piece_sub (L := M0) (e := f0) (most := 100) x (by rw [q1]; exact hx))
  have m2 : ∀ x ∈ M2, x < 256 := fun x hx => m1 x (rd.num_sub (L := M1) (e := f1) x (by rw [q2]; exact hx))
  have m3 : ∀ x ∈ M3, x < 256 := fun x hx => m2 x (rd.num_sub (L := M2) (e := f2) x (by rw [q3]; exact hx))
  have m4 : ∀ x ∈ M4, x < 256 := fun x hx => m3 x (rd.num_sub (L := M3) (e := f3) x (by rw [q4]; exact hx))
  have m5 : ∀ x ∈ M5, x < 256 := fun x hx => m4 x (rd.num_sub (L := M4) (e := f4) x (by rw [q5]; exact hx))
  have m6 : ∀ x ∈ M6, x < 256 := fun x hx => m5 x (rd.piece_sub (L := M5) (e := f5) (most := 100) x (by rw [q6]; exact hx))
  have m7 : ∀ x ∈ M7, x < 256 := fun x hx => m6 x (rd.piece_sub (L := M6) (e := f6) (most := 100) x (by rw [q7]; exact hx))
  have m8 : ∀ x ∈ M8, x < 256 := fun x hx => m7 x (rd.num_sub (L := M7) (e := f7) x (by rw [q8]; exact hx))
  obtain ⟨rfl, g9, z9, l9⟩ := pb.list_back m8 q9
  have m9 : ∀ x ∈ M9, x < 256 := fun x hx => m8 x (by rw [g9]; simp [hx])
  obtain ⟨-, g10, l10⟩ := pb.piece_back m9 q10
  obtain ⟨rfl, g8, i8⟩ := pb.num_back m7 q8
  obtain ⟨rfl, g7, l7⟩ := pb.piece_back m6 q7
  obtain ⟨rfl, g6, l6⟩ := pb.piece_back m5 q6
  obtain ⟨rfl, g5, i5⟩ := pb.num_back m4 q5
  obtain ⟨rfl, g4, i4⟩ := pb.num_back m3 q4
  obtain ⟨rfl, g3, i3⟩ := pb.num_back m2 q3
  obtain ⟨rfl, g2, i2⟩ := pb.num_back m1 q2
  obtain ⟨rfl, g1, l1⟩ := pb.piece_back m0 q1
  obtain ⟨rfl, g0, l0⟩ := pb.piece_back b2 q0
  obtain ⟨rfl, gc, ic⟩ := pb.fixed_back (s := 4) b1 hq2
  obtain ⟨-, gk, ik⟩ := pb.fixed_back (s := 2) hL hq1
  have B0b : ∀ x ∈ B0, x < 256 := fun x hx => b2 x (by rw [g0]; simp [hx])
  have B1b : ∀ x ∈ B1, x < 256 := fun x hx => m0 x (by rw [g1]; simp [hx])
  have B6b : ∀ x ∈ B6, x < 256 := fun x hx => m5 x (by rw [g6]; simp [hx])
  have B7b : ∀ x ∈ B7, x < 256 := fun x hx => m6 x (by rw [g7]; simp [hx])
  rw [hT]
  refine ⟨⟨⟨?_, ?_, i2, i3, i4, i5, i8⟩, ?_, ?_, ?_, ?_⟩, ?_, ?_, ?_⟩
  · unfold pq.int; dsimp only; omega
  · unfold pq.int; dsimp only; omega
  · dsimp only; rw [strOf_size]; unfold maxLen; omega
  · dsimp only; rw [strOf_size]; unfold maxLen; omega
  · dsimp only; rw [strOf_size]; unfold maxLen; omega
  · dsimp only; rw [strOf_size]; unfold maxLen; omega
  · unfold pq.check
    dsimp only
    rw [if_neg c3, if_neg (by omega), if_neg]
    rintro (hh | hh | hh | hh)
    · rw [pb.long_ok] at hh
      · cases hh
      · intro s hs
        have hs : s = strOf B0 ∨ s = strOf B1 ∨ s = strOf B6 ∨ s = strOf B7 := by simpa using hs
        rcases hs with rfl | rfl | rfl | rfl <;> rw [strOf_size] <;> omega
    · omega
    · rw [pb.long_ok z9] at hh; cases hh
    · omega
  · rw [pq.bytes_eq]
    unfold pq.tail
    dsimp only
    rw [pb.text_strOf B0b, pb.text_strOf B1b, pb.text_strOf B6b, pb.text_strOf B7b]
    rw [gk, gc, g0, g1, g2, g3, g4, g5, g6, g7, g8, g9, g10]
    simp only [List.append_assoc, List.append_nil]
  · rfl
/-- Cut short, or longer, it is none. -/
theorem pb.dec_cut (r : PReq) (hf : r.fit) (hc : pq.check r = 0) (hb : ∀ x ∈ pq.bytes r, x < 256) (k : Nat) (hk : k < (pq.bytes r).length) : (pq.dec ((pq.bytes r).take k)).2.2 ≠ 0 := fun h => by
  have hb2 : ∀ x ∈ (pq.bytes r).take k, x < 256 := fun x hx => hb x (List.mem_of_mem_take hx)
  obtain ⟨h1, h2, h3, -⟩ := pb.dec_back hb2 h
  have hlen := (pq.bytes_len hc).2
  have e : pq.bytes (pq.dec ((pq.bytes r).take k)).1 ++ (pq.bytes r).drop k = pq.bytes r := by rw [← h3, List.take_append_drop]
  have hw := pq.dec_put _ ((pq.bytes r).drop k) h1 h2 (by rw [e]; exact hlen)
  have hr := pq.dec_put r [] hf hc (by rw [List.append_nil]; exact hlen)
  rw [List.append_nil] at hr
  rw [e, hr, if_neg (by simp), if_pos (by rw [List.length_drop]; omega)] at hw
  have : (0 : Int) = 2 := congrArg (fun z => z.2.2) hw
  omega
theorem pb.dec_long (r : PReq) (hf : r.fit) (hc : pq.check r = 0) (Z : List Nat) (hz : 0 < Z.length) : (pq.dec (pq.bytes r ++ Z)).2.2 ≠ 0 := fun h => by
  by_cases hl : (pq.bytes r ++ Z).length ≤ 131072
  · rw [pq.dec_put r Z hf hc hl, if_pos hz] at h
    cases h
  · unfold pq.dec at h
    dsimp only at h
    rw [if_pos (by omega)] at h
    cases h
end
section
open Go.RowKit
set_option maxRecDepth 20000
theorem pb.text_byte (s : ByteArray) (hs : s.size ≤ 100) : ∀ x ∈ pq.text s, x < 256 := fun x hx => by
  unfold pq.text at hx
  rcases List.mem_append.1 hx with h | h
  · exact num.put_byte _ (by omega) (by omega) x h
  · exact strNats_lt s x h
theorem pb.texts_byte (l : List ByteArray) (hl : ∀ s ∈ l, s.size ≤ 100) : ∀ x ∈ pq.texts l, x < 256 := fun x hx => by
  unfold pq.texts at hx
  obtain ⟨s, hs, hx2⟩ := List.mem_flatMap.1 hx
  exact pb.text_byte s (hl s hs) x hx2
theorem pb.nums_byte (l : List Int) (hl : ∀ s ∈ l, pq.int s) : ∀ x ∈ pa.nums l, x < 256 := fun x hx => by
  unfold pa.nums at hx
  obtain ⟨s, hs, hx2⟩ := List.mem_flatMap.1 hx
  exact num.put_byte _ (hl s hs).1 (hl s hs).2 x hx2
theorem pb.len_byte (n : Nat) (hn : n ≤ 1000000) : ∀ x ∈ num.put (n : Int), x < 256 := fun x hx => num.put_byte _ (by omega) (by omega) x hx
theorem pb.req_byte (r : PReq) (hf : r.fit) (hc : pq.check r = 0) (hd : ∀ x ∈ r.data, x < 256) : ∀ x ∈ pq.bytes r, x < 256 := by
  obtain ⟨⟨h1, h2, h3, h4, h5, h6, h7⟩, -⟩ := hf
  obtain ⟨-, -, hl4, hn30, hln, hd6⟩ := pq.check_ok hc
  have hs4 := pq.long_no hl4
  have hsn := pq.long_no hln
  intro x hx
  rw [pq.bytes_eq] at hx
  unfold pq.tail at hx
  simp only [List.mem_append] at hx
  rcases hx with h | h | h | h | h | h | h | h | h | h | h | h | h | h | h
  · exact wire.be_byte _ _ x h
  · exact wire.be_byte _ _ x h
  · exact pb.text_byte _ (hs4 _ (by simp)) x h
  · exact pb.text_byte _ (hs4 _ (by simp)) x h
  · exact num.put_byte _ h3.1 h3.2 x h
  · exact num.put_byte _ h4.1 h4.2 x h
  · exact num.put_byte _ h5.1 h5.2 x h
  · exact num.put_byte _ h6.1 h6.2 x h
  · exact pb.text_byte _ (hs4 _ (by simp)) x h
  · exact pb.text_byte _ (hs4 _ (by simp)) x h
  · exact num.put_byte _ h7.1 h7.2 x h
  · exact pb.len_byte _ (by omega) x h
  · exact pb.texts_byte _ hsn x h
  · exact pb.len_byte _ (by omega) x h
  · exact hd x h
theorem pb.ans_byte (r : PAns) (hf : r.fit) (hi : ∀ s ∈ r.nums, pq.int s) (hc : pa.check r = 0) (hd : ∀ x ∈ r.data, x < 256) : ∀ x ∈ pa.bytes r, x < 256 := by
  obtain ⟨⟨h1, h2, h3, h4, h5⟩, -⟩ := hf
  obtain ⟨-, -, hl4, hn30, hln, hm, hd6⟩ := pa.check_ok hc
  have hs4 := pq.long_no hl4
  have hsn := pq.long_no hln
  intro x hx
  unfold pa.bytes at hx
  simp only [List.append_assoc, List.nil_append, List.mem_append] at hx
  rcases hx with h | h | h | h | h | h | h | h | h | h | h | h | h
  · exact wire.be_byte _ _ x h
  · exact wire.be_byte _ _ x h
  · exact num.put_byte _ h3.1 h3.2 x h
  · exact num.put_byte _ h4.1 h4.2 x h
  · exact num.put_byte _ h5.1 h5.2 x h
  · exact pb.text_byte _ (hs4 _ (by simp)) x h
  · exact pb.text_byte _ (hs4 _ (by simp)) x h
  · exact pb.len_byte _ (by omega) x h
  · exact pb.texts_byte _ hsn x h
  · exact pb.len_byte _ (by omega) x h
  · exact pb.nums_byte _ hi x h
  · exact pb.len_byte _ (by omega) x h
  · exact hd x h
theorem pb.ans_len {r : PAns} (hc : pa.check r = 0) : (pa.bytes r).length ≤ 1000000 := by
  obtain ⟨-, -, hl4, hn30, hln, hm, hd6⟩ := pa.check_ok hc
  have hs4 := pq.long_no hl4
  have hsn := pq.long_no hln
  have t2 := (pq.text_len r.member).2
  have t3 := (pq.text_len r.leader).2
  have s2 := hs4 r.member (by simp)
  have s3 := hs4 r.leader (by simp)
  have n4 := num.put_bd r.off
  have n5 := num.put_bd r.last
  have n6 := num.put_bd r.gen
  have n7 := num.put_bd (r.names.length : Int)
  have n8 := num.put_bd (r.nums.length : Int)
  have n9 := num.put_bd (r.data.length : Int)
  have ht : ∀ l : List ByteArray, (∀ s ∈ l, s.size ≤ 100) → (pq.texts l).length ≤ l.length * 110 := fun l => by
    induction l with
    | nil => intro _; simp [pq.texts]
    | cons s l ih =>
      intro h
      have h1 := ih fun x hx => h x (by simp [hx])
      have h2 := (pq.text_len s).2
      have h3 := h s (by simp)
      show (pq.text s ++ pq.texts l).length ≤ _
      rw [List.length_append, List.length_cons]
      omega
  have hu : ∀ l : List Int, (pa.nums l).length ≤ l.length * 10 := fun l => by
    induction l with
    | nil => simp [pa.nums]
    | cons s l ih =>
      have h2 := num.put_bd s
      show (num.put s ++ pa.nums l).length ≤ _
      rw [List.length_append, List.length_cons]
      omega
  have h7 := ht r.names hsn
  have h8 := hu r.nums
  unfold pa.bytes
  simp only [List.length_append, List.nil_append, wire.be_len]
  omega
theorem pb.reqV_lt {w : World} {An Ad : Option Addr} {cn cd : Nat} {r : PReq} (h : ReqV w An cn Ad cd r) : ∀ x ∈ r.data, x < 256 := by
  obtain ⟨-, -, A, c, -, -, -, -, h⟩ := h
  exact h
theorem pb.ansV_lt {w : World} {An Am Ad : Option Addr} {cn cm cd : Nat} {r : PAns} (h : AnsV w An cn Am cm Ad cd r) : (∀ x ∈ r.data, x < 256) ∧ ∀ s ∈ r.nums, pq.int s := by
  obtain ⟨-, -, ⟨A2, c2, -, -, -, -, h2⟩, A, c, -, -, -, -, h⟩ := h
  exact ⟨h, h2⟩
/-- What was written is read. -/
theorem pb.decode_own (r : PReq) (hf : r.fit) (hc : pq.check r = 0) (hb : ∀ x ∈ pq.bytes r, x < 256) (n : Nat) (hn : n = (pq.bytes r).length) (A : Option Addr) (c : Nat) (wx : World) (hat : At wx A n (byteAt (pq.bytes r))) (h1 : n ≤ c) (h2 : c ≤ maxLen) :
    Calls Try.prog 12 #[.slice A n c] wx fun en w' => (∃ An cn Ad cd, en = .returned (.tuple #[.agg (r.cells An cn Ad cd), .int .i64 r.corr, .int .i64 0]) ∧ ReqV w' An cn Ad cd r) ∧ Below wx.heap.size wx w' := by
  subst hn
  have hl := pq.bytes_len hc
  have hd := pq.dec_put r [] hf hc (by rw [List.append_nil]; exact hl.2)
  rw [List.append_nil, if_neg (by simp)] at hd
  refine (pq.decode_any A c (pq.bytes r) wx hat h1 h2 hb (by omega)).mono ?_
  unfold pq.DecPost
  rw [hd]
  rintro en w' ⟨⟨cs, rfl, -, -, q2⟩, q3⟩
  obtain ⟨An, cn, Ad, cd, rfl, q4, -⟩ := q2 rfl
  exact ⟨⟨An, cn, Ad, cd, rfl, q4⟩, q3⟩
theorem pb.decode_cut (r : PReq) (hf : r.fit) (hc : pq.check r = 0) (hb : ∀ x ∈ pq.bytes r, x < 256) (n k : Nat) (hn : n = (pq.bytes r).length) (hk : k ≤ n) (A : Option Addr) (c : Nat) (wx : World) (hat : At wx A n (byteAt (pq.bytes r))) (h1 : n ≤ c) (h2 : c ≤ maxLen) :
    Calls Try.prog 12 #[.slice A k c] wx fun en w' => (∃ (cs : Array Value) (x y : Int), en = .returned (.tuple #[.agg cs, .int .i64 x, .int .i64 y]) ∧ (cs.size = 13 ∧ cs.all (fun v => v.oneCell') = true) ∧ (y = 0 ↔ k = n)) ∧ Below wx.heap.size wx w' := by
  subst hn
  have hl := pq.bytes_len hc
  have hlk : ((pq.bytes r).take k).length = k := by rw [List.length_take]; omega
  have hd := pq.decode_any A c ((pq.bytes r).take k) wx (by rw [hlk]; exact hat.byte_le k hk) (by omega) h2 (fun x hx => hb x (List.mem_of_mem_take hx)) (by omega)
  rw [hlk] at hd
  refine hd.mono ?_
  rintro en w' ⟨⟨cs, rfl, q1, -⟩, q3⟩
  refine ⟨⟨cs, _, _, rfl, q1, ?_, ?_⟩, q3⟩
  · intro h
    by_cases hlt : k < (pq.bytes r).length
    · exact absurd h (pb.dec_cut r hf hc hb k hlt)
    · omega
  · rintro rfl
    have hd := pq.dec_put r [] hf hc (by rw [List.append_nil]; exact hl.2)
    rw [List.append_nil, if_neg (by simp)] at hd
    rw [List.take_length, hd]
theorem pb.decode_long (r : PReq) (hf : r.fit) (hc : pq.check r = 0) (hb : ∀ x ∈ pq.bytes r, x < 256) (z : Nat) (hz : z < 256) (m : Nat) (hm : m = (pq.bytes r ++ [z]).length) (A : Option Addr) (c : Nat) (wx : World) (hat : At wx A m (byteAt (pq.bytes r ++ [z]))) (h1 : m ≤ c) (h2 : c ≤ maxLen) :
    Calls Try.prog 12 #[.slice A m c] wx fun en w' => (∃ (cs : Array Value) (x y : Int), en = .returned (.tuple #[.agg cs, .int .i64 x, .int .i64 y]) ∧ (cs.size = 13 ∧ cs.all (fun v => v.oneCell') = true) ∧ y ≠ 0) ∧ Below wx.heap.size wx w' := by
  subst hm
  have hl := pq.bytes_len hc
  refine (pq.decode_any A c (pq.bytes r ++ [z]) wx hat h1 h2 (fun x hx => by rcases List.mem_append.1 hx with h | h; exact hb x h; rw [List.mem_singleton.1 h]; exact hz) (by rw [List.length_append, List.length_singleton]; omega)).mono ?_
  rintro en w' ⟨⟨cs, rfl, q1, -⟩, q3⟩
  exact ⟨⟨cs, _, _, rfl, q1, pb.dec_long r hf hc [z] (by simp)⟩, q3⟩
theorem pb.read_own (r : PAns) (hf : r.fit) (hi : ∀ s ∈ r.nums, pq.int s) (hc : pa.check r = 0) (hb : ∀ x ∈ pa.bytes r, x < 256) (n : Nat) (hn : n = (pa.bytes r).length) (A : Option Addr) (c : Nat) (wx : World) (hat : At wx A n (byteAt (pa.bytes r))) (h1 : n ≤ c) (h2 : c ≤ maxLen) (hA : ∀ a, A = some a → a.block < wx.heap.size) :
    Calls Try.prog 19 #[.slice A n c] wx fun en w' => (∃ An cn Am cm Ad cd, en = .returned (.tuple #[.agg (r.cells An cn Am cm Ad cd), .int .i64 0]) ∧ AnsV w' An cn Am cm Ad cd r) ∧ Below wx.heap.size wx w' := by
  subst hn
  have hl := pb.ans_len hc
  have hd := pa.dec_put r [] hf hi hc
  rw [List.append_nil, if_neg (by simp)] at hd
  have hrd : pa.read (pa.bytes r) = (r, 0) := by
    unfold pa.read
    rw [hd]
    obtain ⟨⟨-, h⟩, -⟩ := pa.check_ok hc
    rw [if_neg]
    rintro (q | q)
    · exact q rfl
    · dsimp only at q
      omega
  refine (pa.read_any A c (pa.bytes r) wx hat h1 h2 hb (by omega) hA).mono ?_
  unfold pa.ReadPost
  rw [hrd]
  rintro en w' ⟨⟨cs, rfl, -, -, q2⟩, q3⟩
  obtain ⟨An, cn, Am, cm, Ad, cd, rfl, q4, -⟩ := q2 rfl
  exact ⟨⟨An, cn, Am, cm, Ad, cd, rfl, q4⟩, q3⟩
theorem pb.read_long (r : PAns) (hf : r.fit) (hi : ∀ s ∈ r.nums, pq.int s) (hc : pa.check r = 0) (hb : ∀ x ∈ pa.bytes r, x < 256) (z : Nat) (hz : z < 256) (m : Nat) (hm : m = (pa.bytes r ++ [z]).length) (A : Option Addr) (c : Nat) (wx : World) (hat : At wx A m (byteAt (pa.bytes r ++ [z]))) (h1 : m ≤ c) (h2 : c ≤ maxLen) (hA : ∀ a, A = some a → a.block < wx.heap.size) :
    Calls Try.prog 19 #[.slice A m c] wx fun en w' => (∃ cs : Array Value, en = .returned (.tuple #[.agg cs, .int .i64 2]) ∧ (cs.size = 10 ∧ cs.all (fun v => v.oneCell') = true)) ∧ Below wx.heap.size wx w' := by
  subst hm
  have hl := pb.ans_len hc
  have hd := pa.dec_put r [z] hf hi hc
  rw [if_pos (by simp)] at hd
  have hrd : (pa.read (pa.bytes r ++ [z])).2 = 2 := by
    unfold pa.read
    rw [hd, if_pos (.inl (show ¬ ((2 : Int) = 0) by decide))]
  refine (pa.read_any A c (pa.bytes r ++ [z]) wx hat h1 h2 (fun x hx => by rcases List.mem_append.1 hx with h | h; exact hb x h; rw [List.mem_singleton.1 h]; exact hz) (by rw [List.length_append, List.length_singleton]; omega) hA).mono ?_
  unfold pa.ReadPost
  rw [hrd]
  rintro en w' ⟨⟨cs, rfl, q1, -⟩, q3⟩
  exact ⟨⟨cs, rfl, q1⟩, q3⟩
end
end Go.Proofs.Ytimcpbbcealkiaa

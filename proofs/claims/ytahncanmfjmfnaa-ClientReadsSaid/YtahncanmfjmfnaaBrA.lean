/- What decodes is what was written. -/
import Derived.Test.YtahncanmfjmfnaaBkW
namespace Go.Proofs.Ytahncanmfjmfnaa
open Go.RowKit

theorem num.gt_back (L : List Nat) (hL : ∀ x ∈ L, x < 256) : ∀ (k i acc a b : Nat), i + k = 10 → num.gt (fun j => L.getD j 0) L.length k i acc = some (a, b) →
    ∃ v, a = acc + v * 128 ^ i ∧ v < 2 * 128 ^ (9 - i) ∧ i < b ∧ b ≤ L.length ∧ (L.drop i).take (b - i) = num.dg (9 - i) v ∧ (v ≠ 0 ∨ i = 0)
  | 0, _, _, _, _, _, h => by cases h
  | k + 1, i, acc, a, b, hik, h => by
    unfold num.gt at h
    split at h
    · cases h
    · rename_i hn
      have hi : i < L.length := by omega
      obtain ⟨x, hx⟩ : ∃ x, L[i]? = some x := ⟨_, List.getElem?_eq_getElem hi⟩
      have hxe : L.getD i 0 = x := by simp [List.getD, hx]
      have hx8 : x < 256 := hL x (List.mem_of_getElem? hx)
      have hdrop : L.drop i = x :: L.drop (i + 1) := by
        obtain ⟨h1, h2⟩ := List.getElem?_eq_some_iff.1 hx
        rw [← h2, List.drop_eq_getElem_cons h1]
      simp only [hxe] at h
      split at h
      · cases h
      · rename_i h9
        split at h
        · rename_i hge
          cases k with
          | zero => cases h
          | succ k =>
            obtain ⟨v, h1, h2, h3, h4, h5, h6⟩ := num.gt_back L hL (k + 1) (i + 1) _ a b (by omega) h
            have hv : v ≠ 0 := by omega
            have e9 : 9 - i = (9 - (i + 1)) + 1 := by omega
            refine ⟨x % 128 + 128 * v, ?_, ?_, by omega, h4, ?_, .inl (by omega)⟩
            · rw [h1, Nat.pow_succ, Nat.add_mul, Nat.add_assoc, Nat.mul_comm (128 ^ i) 128, ← Nat.mul_assoc, Nat.mul_comm v 128]
            · rw [e9, Nat.pow_succ]
              generalize 128 ^ (9 - (i + 1)) = p at h2
              omega
            · rw [e9, num.dg_up _ _ (by omega), show (x % 128 + 128 * v) % 128 + 128 = x by omega, show (x % 128 + 128 * v) / 128 = v by omega, ← h5, hdrop, show b - i = (b - (i + 1)) + 1 by omega]
              rfl
        · rename_i hlt
          split at h
          · cases h
          · rename_i h0
            obtain ⟨rfl, rfl⟩ : acc + x % 128 * 128 ^ i = a ∧ i + 1 = b := by simpa using h
            have hxm : x % 128 = x := by omega
            refine ⟨x, by rw [hxm], ?_, by omega, by omega, ?_, by omega⟩
            · by_cases hi9 : i = 9
              · subst hi9
                have : ¬ 1 < x % 128 := fun hh => h9 ⟨rfl, hh⟩
                show x < 2 * 128 ^ 0
                omega
              · have e9 : 9 - i = (8 - i) + 1 := by omega
                rw [e9, Nat.pow_succ]
                have : 0 < 128 ^ (8 - i) := Nat.pow_pos (by decide)
                omega
            · rw [num.dg_low _ _ (by omega), hdrop, show i + 1 - i = 1 by omega]
              rfl
theorem num.zig_zag (u : Nat) : (num.zig (num.zag (u : Int))).toNat = u := by unfold num.zig num.zag; split <;> split <;> omega
theorem dec.num_back {L : List Nat} (hL : ∀ x ∈ L, x < 256) {n : Int} {Z : List Nat} (h : dec.num L = (n, Z, true)) : L = num.put n ++ Z ∧ i64ok n := by
  unfold dec.num at h
  cases hg : num.getL L with
  | none => rw [hg] at h; simp at h
  | some p =>
    obtain ⟨u, k⟩ := p
    rw [hg] at h
    obtain ⟨rfl, rfl⟩ : num.zag u = n ∧ L.drop k = Z := by simpa using h
    obtain ⟨v, h1, h2, h3, h4, h5, -⟩ := num.gt_back L hL 10 0 0 u k rfl hg
    have hv : u = v := by rw [h1]; simp
    subst hv
    have hp : num.put (num.zag (u : Int)) = L.take k := by
      unfold num.put
      rw [num.zig_zag]
      have := h5
      rw [List.drop_zero, Nat.sub_zero, Nat.sub_zero] at this
      exact this.symm
    refine ⟨by rw [hp, List.take_append_drop], ?_⟩
    have h6 : (2 : Nat) * 128 ^ (9 - 0) = 18446744073709551616 := by decide
    rw [h6] at h2
    unfold i64ok num.zag
    split <;> omega
theorem dec.field_back {L : List Nat} (hL : ∀ x ∈ L, x < 256) {has : Bool} {K R : List Nat} (h : dec.field L = some (has, K, R)) : L = bat.field has K ++ R ∧ (has = false → K = []) := by
  obtain ⟨N, R1, ok, hd⟩ : ∃ x y z, dec.num L = (x, y, z) := ⟨_, _, _, rfl⟩
  unfold dec.field at h
  rw [hd] at h
  dsimp only at h
  split at h
  · cases h
  · rename_i h1
    have hok : ok = true := by
      cases ok with
      | false => exact absurd (Or.inl rfl) h1
      | true => rfl
    subst hok
    obtain ⟨hb, -⟩ := dec.num_back hL hd
    split at h
    · rename_i hN
      obtain ⟨rfl, rfl, rfl⟩ : false = has ∧ [] = K ∧ R1 = R := by simpa using h
      exact ⟨by rw [hb, hN]; rfl, fun _ => rfl⟩
    · rename_i hN
      obtain ⟨rfl, rfl, rfl⟩ : true = has ∧ R1.take N.toNat = K ∧ R1.drop N.toNat = R := by simpa using h
      refine ⟨?_, fun h => by cases h⟩
      have hl : ((R1.take N.toNat).length : Int) = N := by rw [List.length_take]; omega
      show L = num.put ((R1.take N.toNat).length : Int) ++ R1.take N.toNat ++ R1.drop N.toNat
      rw [hl, List.append_assoc, List.take_append_drop]
      exact hb
theorem wrap_back {s r : Int} (h : wrap64 s = r) (h0 : 0 ≤ r) (h1 : -9223372036854775808 ≤ s) (h2 : s ≤ 13835058055282163712) : s = r := by
  unfold RowKit.wrap64 at h
  omega
theorem dec.rec_back {first base : Int} (f0 : 0 ≤ first) (f1 : first ≤ 1125899906842624) (b0 : 0 ≤ base) (b1 : base ≤ 4611686018427387904) {L : List Nat} (hL : ∀ x ∈ L, x < 256) {r : Rec} {R : List Nat} (h : dec.rec first base L = some (r, R)) (ho : 0 ≤ r.off) (ht : 0 ≤ r.time) :
    L = r.bytes first base ++ R ∧ (r.hasKey = false → r.key = []) ∧ (r.hasVal = false → r.val = []) := by
  obtain ⟨N, R1, ok1, d1⟩ : ∃ x y z, dec.num L = (x, y, z) := ⟨_, _, _, rfl⟩
  have hR1b := dec.num_byte hL
  rw [d1] at hR1b
  dsimp only at hR1b
  by_cases g1 : ok1 = false ∨ N < 0 ∨ (R1.length : Int) < N
  · rw [dec.rec1 (by rw [d1]; exact g1)] at h; cases h
  · have hok : ok1 = true := by
      cases ok1 with
      | false => exact absurd (Or.inl rfl) g1
      | true => rfl
    subst hok
    obtain ⟨z, rfl⟩ : ∃ z : Nat, N = (z : Int) := ⟨N.toNat, by omega⟩
    have hz : z ≤ R1.length := by omega
    obtain ⟨t, R2, ok2, d2⟩ : ∃ x y z', dec.num (R1.take z) = (x, y, z') := ⟨_, _, _, rfl⟩
    have hbb : ∀ x ∈ R1.take z, x < 256 := fun x hx => hR1b x (List.mem_of_mem_take hx)
    have hR2b := dec.num_byte hbb
    rw [d2] at hR2b
    dsimp only at hR2b
    cases ok2 with
    | false => rw [dec.rec2 d1 hz (by rw [d2])] at h; cases h
    | true =>
      obtain ⟨o, R3, ok3, d3⟩ : ∃ x y z', dec.num R2 = (x, y, z') := ⟨_, _, _, rfl⟩
      have hR3b := dec.num_byte hR2b
      rw [d3] at hR3b
      dsimp only at hR3b
      cases ok3 with
      | false => rw [dec.rec3 d1 hz d2 (by rw [d3])] at h; cases h
      | true =>
        cases f1' : dec.field R3 with
        | none => rw [dec.rec4 d1 hz d2 d3 f1'] at h; cases h
        | some p =>
          obtain ⟨hk, K, R4⟩ := p
          have hR4b := dec.field_byte hR3b f1'
          cases f2' : dec.field R4 with
          | none => rw [dec.rec5 d1 hz d2 d3 f1' f2'] at h; cases h
          | some p =>
            obtain ⟨hv, V, R5⟩ := p
            by_cases h5 : 0 < R5.length
            · rw [dec.rec6 d1 hz d2 d3 f1' f2' h5] at h; cases h
            · have h50 : R5.length = 0 := by omega
              rw [dec.rec7 d1 hz d2 d3 f1' f2' h50] at h
              have h6 := Option.some.inj h
              obtain ⟨rfl, rfl⟩ : (⟨wrap64 (base + o), wrap64 (first + t), hk, K, hv, V⟩ : Rec) = r ∧ R1.drop z = R := by simpa using h6
              obtain ⟨l1, i1⟩ := dec.num_back hL d1
              obtain ⟨l2, i2⟩ := dec.num_back hbb d2
              obtain ⟨l3, i3⟩ := dec.num_back hR2b d3
              obtain ⟨l4, k1⟩ := dec.field_back hR3b f1'
              obtain ⟨l5, k2⟩ := dec.field_back hR4b f2'
              obtain rfl : R5 = [] := List.length_eq_zero_iff.1 h50
              rw [List.append_nil] at l5
              unfold i64ok at i2 i3
              dsimp only at ho ht
              have eo : base + o = wrap64 (base + o) := wrap_back rfl ho (by omega) (by omega)
              have et : first + t = wrap64 (first + t) := wrap_back rfl ht (by omega) (by omega)
              refine ⟨?_, k1, k2⟩
              have hrest : (⟨wrap64 (base + o), wrap64 (first + t), hk, K, hv, V⟩ : Rec).rest first base = R1.take z := by
                unfold Rec.rest
                dsimp only
                rw [← eo, ← et, show first + t - first = t by omega, show base + o - base = o by omega, l2, l3, l4, l5]
                simp only [List.append_assoc]
              rw [← Rec.rest_bytes _ first base k1 k2, hrest, List.length_take, Nat.min_eq_left hz, List.append_assoc, List.take_append_drop]
              exact l1
theorem dec.rec_byte {first base : Int} {L : List Nat} (hL : ∀ x ∈ L, x < 256) {r : Rec} {R : List Nat} (h : dec.rec first base L = some (r, R)) : ∀ x ∈ R, x < 256 := by
  have hR1b := dec.num_byte hL
  have e : ∃ k, R = (dec.num L).2.1.drop k := by
    unfold dec.rec at h
    repeat' split at h
    all_goals first | (cases h; done) | exact ⟨_, ((Prod.mk.inj (Option.some.inj h)).2).symm⟩
  obtain ⟨k, rfl⟩ := e
  exact fun x hx => hR1b x (List.mem_of_mem_drop hx)
theorem dec.recs_back {first base : Int} (f0 : 0 ≤ first) (f1 : first ≤ 1125899906842624) (b0 : 0 ≤ base) (b1 : base ≤ 4611686018427387904) :
    ∀ (n : Nat) (L : List Nat) (rs : List Rec) (R : List Nat), (∀ x ∈ L, x < 256) → dec.recs first base n L = some (rs, R) → (∀ r ∈ rs, r.ok) → L = (rs.map (Rec.bytes first base)).flatten ++ R ∧ rs.length = n
  | 0, L, rs, R, _, h, _ => by
    obtain ⟨rfl, rfl⟩ : [] = rs ∧ L = R := by simpa [dec.recs] using h
    exact ⟨rfl, rfl⟩
  | n + 1, L, rs, R, hL, h, ho => by
    rw [dec.recs_succ] at h
    cases h1 : dec.rec first base L with
    | none => rw [h1] at h; cases h
    | some p =>
      obtain ⟨r, Z⟩ := p
      rw [h1] at h
      dsimp only at h
      cases h2 : dec.recs first base n Z with
      | none => rw [h2] at h; cases h
      | some q =>
        obtain ⟨rs', R'⟩ := q
        rw [h2] at h
        obtain ⟨rfl, rfl⟩ : r :: rs' = rs ∧ R' = R := by simpa using h
        have hr := ho r (List.mem_cons_self ..)
        obtain ⟨e1, -⟩ := dec.rec_back f0 f1 b0 b1 hL h1 hr.2.2.1 hr.1
        obtain ⟨e2, e3⟩ := dec.recs_back f0 f1 b0 b1 n Z rs' R' (dec.rec_byte hL h1) h2 fun x hx => ho x (List.mem_cons_of_mem _ hx)
        refine ⟨?_, by rw [List.length_cons, e3]⟩
        rw [List.map_cons, List.flatten_cons, List.append_assoc, ← e2]
        exact e1
theorem wire.be_val {M : List Nat} (hM : ∀ x ∈ M, x < 256) : wire.be (wire.val M) M.length = M := by
  have h1 := wire.val_be (wire.val M) M.length (wire.val_lt M hM)
  exact wire.val_inj (wire.be_len _ _) (wire.be_byte _ _) hM h1
theorem rd.fixed_back {L : List Nat} (hL : ∀ x ∈ L, x < 256) {e v : Int} {s : Nat} {R : List Nat} (h : rd.fixed L e s = (v, R, 0)) : e = 0 ∧ L = wire.be v.toNat s ++ R := by
  obtain ⟨g1, g2, g3, g4⟩ := rd.fixed_ok (L := L) (e := e) (s := s) (by rw [h])
  rw [h] at g2 g4
  dsimp only at g2 g4
  refine ⟨g1, ?_⟩
  have hb : ∀ x ∈ L.take s, x < 256 := fun x hx => hL x (List.mem_of_mem_take hx)
  have h2 := wire.be_val hb
  rw [List.length_take, Nat.min_eq_left g3] at h2
  rw [g4, Int.toNat_natCast, h2, g2, List.take_append_drop]
theorem dec.summed_back {base : Int} {L : List Nat} (hL : ∀ x ∈ L, x < 256) {b : Bat} (h : dec.summed base L = some b) (hc : b.check = 0) : L = b.summed := by
  have hbase := dec.summed_base h
  obtain ⟨hm, -, ho, -⟩ := Bat.check_ok hc
  obtain ⟨m0, m1, m2, m3, -⟩ := id hm
  obtain ⟨ff0, ff1⟩ := Bat.first_ok ho
  obtain ⟨v1, R1, E1, h1⟩ : ∃ x y z, dec.f1 L = (x, y, z) := ⟨_, _, _, rfl⟩
  obtain ⟨v2, R2, E2, h2⟩ : ∃ x y z, dec.f2 L = (x, y, z) := ⟨_, _, _, rfl⟩
  obtain ⟨v3, R3, E3, h3⟩ : ∃ x y z, dec.f3 L = (x, y, z) := ⟨_, _, _, rfl⟩
  obtain ⟨v4, R4, E4, h4⟩ : ∃ x y z, dec.f4 L = (x, y, z) := ⟨_, _, _, rfl⟩
  obtain ⟨v5, R5, E5, h5⟩ : ∃ x y z, dec.f5 L = (x, y, z) := ⟨_, _, _, rfl⟩
  obtain ⟨v6, R6, E6, h6⟩ : ∃ x y z, dec.f6 L = (x, y, z) := ⟨_, _, _, rfl⟩
  have p1 : 0 ≤ v1 := by have := rd.fixed_pos L 0 8; rw [show rd.fixed L 0 8 = (v1, R1, E1) from h1] at this; exact this
  have p6 : 0 ≤ v6 := by have := rd.fixed_pos R5 E5 4; rw [show rd.fixed R5 E5 4 = (v6, R6, E6) by rw [← h6]; unfold dec.f6; rw [h5]] at this; exact this
  unfold dec.summed at h
  rw [h6, h2, h1, h3, h4, h5] at h
  dsimp only at h
  split at h
  · cases h
  · rename_i hg
    have hE6 : E6 = 0 := by omega
    subst hE6
    split at h
    · cases h
    · rename_i rs hall
      split at h
      · rename_i hfirst
        have hb := Option.some.inj h
        subst hb
        have q6 : rd.fixed R5 E5 (4 : Nat) = (v6, R6, 0) := by rw [← h6]; unfold dec.f6; rw [h5]; rfl
        have q5 : rd.fixed R4 E4 (4 : Nat) = (v5, R5, E5) := by rw [← h5]; unfold dec.f5; rw [h4]; rfl
        have q4 : rd.fixed R3 E3 (2 : Nat) = (v4, R4, E4) := by rw [← h4]; unfold dec.f4; rw [h3]; rfl
        have q3 : rd.fixed R2 E2 (8 : Nat) = (v3, R3, E3) := by rw [← h3]; unfold dec.f3; rw [h2]; rfl
        have q2 : rd.fixed R1 E1 (8 : Nat) = (v2, R2, E2) := by rw [← h2]; unfold dec.f2; rw [h1]; rfl
        have q1 : rd.fixed L 0 (8 : Nat) = (v1, R1, E1) := h1
        have b1 : ∀ x ∈ R1, x < 256 := by have := rd.fixed_byte hL 0 (8 : Nat); rw [q1] at this; exact this
        have b2 : ∀ x ∈ R2, x < 256 := by have := rd.fixed_byte b1 E1 (8 : Nat); rw [q2] at this; exact this
        have b3 : ∀ x ∈ R3, x < 256 := by have := rd.fixed_byte b2 E2 (8 : Nat); rw [q3] at this; exact this
        have b4 : ∀ x ∈ R4, x < 256 := by have := rd.fixed_byte b3 E3 (2 : Nat); rw [q4] at this; exact this
        have b5 : ∀ x ∈ R5, x < 256 := by have := rd.fixed_byte b4 E4 (4 : Nat); rw [q5] at this; exact this
        have b6 : ∀ x ∈ R6, x < 256 := by have := rd.fixed_byte b5 E5 (4 : Nat); rw [q6] at this; exact this
        obtain ⟨rfl, l6⟩ := rd.fixed_back b5 q6
        obtain ⟨rfl, l5⟩ := rd.fixed_back b4 q5
        obtain ⟨rfl, l4⟩ := rd.fixed_back b3 q4
        obtain ⟨rfl, l3⟩ := rd.fixed_back b2 q3
        obtain ⟨rfl, l2⟩ := rd.fixed_back b1 q2
        obtain ⟨-, l1⟩ := rd.fixed_back hL q1
        have hrec : dec.recs v2 base v6.toNat R6 = some (rs, []) := by
          unfold dec.all at hall
          split at hall
          · rename_i rs' hr
            obtain rfl := Option.some.inj hall
            exact hr
          · cases hall
        have hff : Bat.first rs = v2 := hfirst
        dsimp only at m0 m1 m2 m3 ho ff0 ff1
        rw [hff] at ff0 ff1
        obtain ⟨l7, hlen⟩ := dec.recs_back ff0 ff1 m0 m1 v6.toNat R6 rs [] b6 hrec ho
        rw [List.append_nil] at l7
        have hlast : base + v1 = wrap64 (base + v1) := by
          have hv1b : v1 ≤ 9223372036854775807 := by
            obtain ⟨-, -, g3, g4⟩ := rd.fixed_ok (L := L) (e := 0) (s := 8) (by rw [q1])
            rw [q1] at g4
            dsimp only at g4
            have hbad : ¬ rd.fbad L (8 : Nat) := by
              intro hb
              have : rd.fixed L 0 (8 : Nat) = (0, [], 2) := by unfold rd.fixed; rw [if_neg (by simp), if_pos hb]
              rw [q1] at this
              simp at this
            have hx := wire.val_bd (L.take 8) (fun x hx => hL x (List.mem_of_mem_take hx)) (by rw [List.length_take]; omega) (fun _ => by
              unfold rd.fbad at hbad
              have e0 : (L.take 8).getD 0 0 = L.getD 0 0 := by simp [List.getD]
              rw [e0]
              omega) 7 (by rw [List.length_take]; omega)
            have hstep := wire.val_step (L.take 8) 7 (by rw [List.length_take]; omega)
            have hl8 : (L.take 8).take (7 + 1) = L.take 8 := by rw [List.take_take]; rfl
            rw [hl8] at hstep
            have hlast : (L.take 8).getD 7 0 < 256 := getD_lt (fun x hx => hL x (List.mem_of_mem_take hx)) 7 (by rw [List.length_take]; omega)
            omega
          exact wrap_back rfl (by omega) (by omega) (by omega)
        unfold Bat.summed Bat.body Bat.head
        dsimp only
        rw [List.take_length, ← hlast, show base + v1 - base = v1 by omega, hff, hlen, ← l7]
        simp only [List.append_assoc]
        rw [← l6, ← l5, ← l4, ← l3, ← l2]
        exact l1
      · cases h
theorem dec.first_back {L : List Nat} (hL : ∀ x ∈ L, x < 256) {b : Bat} {u : Nat} (h : dec.first L = some (b, u)) : b.check = 0 ∧ u ≤ L.length ∧ L.take u = b.bytes := by
  unfold dec.first at h
  split at h
  · cases h
  · rename_i hn1
    have herr : (dec.g2 L).2.2 = 0 := by
      by_cases h0 : (dec.g2 L).2.2 = 0
      · exact h0
      · exact absurd (Or.inl h0) hn1
    obtain ⟨h12, -, -, r2, -⟩ := dec.g_ok herr
    split at h
    · cases h
    · rename_i hn2
      split at h
      · cases h
      · rename_i b' hs
        split at h
        · cases h
        · rename_i hck
          obtain ⟨rfl, rfl⟩ : b' = b ∧ 12 + (dec.g2 L).1.toNat = u := by simpa using Option.some.inj h
          have hc : b'.check = 0 := by
            by_cases h0 : b'.check = 0
            · exact h0
            · exact absurd h0 hck
          have p2 : 0 ≤ (dec.g2 L).1 := rd.fixed_pos _ _ _
          rw [r2, List.length_drop] at hn1
          obtain ⟨n, hn⟩ : ∃ n : Nat, (dec.g2 L).1 = (n : Int) := ⟨(dec.g2 L).1.toNat, by omega⟩
          rw [hn] at hn1 hn2 hs
          rw [hn, Int.toNat_natCast]
          rw [Int.toNat_natCast] at hn2 hs
          have hu : 12 + n ≤ L.length := by omega
          have hn4 : 4 ≤ n := by omega
          have hbase := dec.summed_base hs
          have hSb : ∀ x ∈ dec.sum L n, x < 256 := fun x hx => hL x (List.mem_of_mem_take (List.mem_of_mem_drop hx))
          have hS := dec.summed_back hSb hs hc
          have hSl : (dec.sum L n).length = n - 4 := by
            unfold dec.sum
            rw [List.length_drop, List.length_take]
            omega
          have q1 : rd.fixed L 0 (8 : Nat) = ((dec.g1 L).1, (dec.g1 L).2.1, (dec.g1 L).2.2) := rfl
          have q2 : rd.fixed (dec.g1 L).2.1 (dec.g1 L).2.2 (4 : Nat) = ((dec.g2 L).1, (dec.g2 L).2.1, 0) := by rw [← herr]; rfl
          have b1 : ∀ x ∈ (dec.g1 L).2.1, x < 256 := rd.fixed_byte hL 0 8
          obtain ⟨e1, l2⟩ := rd.fixed_back b1 q2
          rw [e1] at q1
          obtain ⟨-, l1⟩ := rd.fixed_back hL q1
          have b2 : ∀ x ∈ (dec.g2 L).2.1, x < 256 := rd.fixed_byte b1 _ 4
          have q3 : rd.fixed (dec.g2 L).2.1 0 (4 : Nat) = ((dec.g3 L).1, (dec.g3 L).2.1, 0) := by
            have e3 : dec.g3 L = rd.fixed (dec.g2 L).2.1 0 (4 : Nat) := by unfold dec.g3; rw [herr]; rfl
            rw [e3]
            unfold rd.fixed
            rw [if_neg (by simp), if_neg (by unfold rd.fbad; rw [r2, List.length_drop]; omega)]
          obtain ⟨-, l3⟩ := rd.fixed_back b2 q3
          have hcrc : (dec.g3 L).1 = ((crc.more 0 (dec.sum L n) : Nat) : Int) := by
            by_cases hx : (dec.g3 L).1 = ((crc.more 0 (dec.sum L n) : Nat) : Int)
            · exact hx
            · exact absurd (Or.inr hx) hn2
          rw [hcrc, Int.toNat_natCast] at l3
          rw [hn, Int.toNat_natCast] at l2
          have hLL : L = (wire.be (dec.g1 L).1.toNat 8 ++ wire.be n 4 ++ wire.be (crc.more 0 (dec.sum L n)) 4) ++ (dec.g3 L).2.1 := by
            simp only [List.append_assoc]
            rw [← l3, ← l2]
            exact l1
          have h16 : L.take 16 = wire.be (dec.g1 L).1.toNat 8 ++ wire.be n 4 ++ wire.be (crc.more 0 (dec.sum L n)) 4 := by
            have h := congrArg (List.take 16) hLL
            exact h.trans (List.take_left' (by simp only [List.length_append, wire.be_len]))
          refine ⟨hc, hu, ?_⟩
          have hsplit : L.take (12 + n) = L.take 16 ++ dec.sum L n := by
            have h := (List.take_append_drop 16 (L.take (12 + n))).symm
            rw [List.take_take, Nat.min_eq_left (by omega)] at h
            exact h
          rw [hsplit, h16]
          unfold Bat.bytes Bat.front
          rw [← hS, hbase, hSl, show 4 + (n - 4) = n by omega]
end Go.Proofs.Ytahncanmfjmfnaa

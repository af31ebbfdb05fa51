/- The walk of the law BatchGaps. -/
import Derived.Test.YtndingohckcmdaaBdG
import Derived.Test.YtndingohckcmdaaBatW
import Derived.Test.YtndingohckcmdaaBsC
import Derived.Test.YtndingohckcmdaaBwD
import Derived.Test.YtndingohckcmdaaPlanC
namespace Go.Proofs.Ytndingohckcmdaa
open Go.RowKit

section
variable {P : Program} {ops : Array Oper} {S : World → Prop}

/-- What a list of one operation leaves, as an operation that comes up. -/
theorem gap.op_of_list {Q : Exit → Act → World → Prop} {i : Nat} {o : Oper} {a : Act} {w : World} {R : Act → World → Prop} (ho : ops[i]? = some o) (h : ∀ K : Act → World → Prop, (∀ a w, R a w → K a w) → wpList P ops (Exit.then K fun _ _ _ => False) [o] a w) : wpOp P ops Q i R a w := by
  have h1 := h _ (fun _ _ hk => hk)
  unfold wpOp
  simp only [ho]
  unfold wpList at h1
  by_cases hw : Region.wanted o (yielded ops a.tmps) = true
  · rw [if_pos hw] at h1 ⊢
    rcases h1 with h1 | ⟨_, x, y, hxy⟩
    · exact .inl (Oper.wp_one h1)
    · exact hxy.elim
  · rw [if_neg hw] at h1 ⊢
    exact h1
/-- Two that may come up: each in turn the first. -/
theorem plan_both {K : Act → World → Prop} {l0 : List Oper} {o1 o2 : Oper} (m1 m2 : List Bool) (i j fuel : Nat) {n : Nat} {listed : Array Bool} {a : Act} {w : World} (s1 : sel l0 m1 = [o1]) (s2 : sel l0 m2 = [o2]) (h1 : l0.toArray[i]? = some o1) (h2 : l0.toArray[j]? = some o2) (hn : n = fuel + 1)
    (hr : Region.ready .any l0.toArray listed = [i, j])
    (k1 : ∀ K1 : Act → World → Prop, (∀ a w, (S w ∧ wpAnyH P .any l0.toArray (Exit.then K fun _ _ _ => False) S fuel (listed.setIfInBounds i true) a w) → K1 a w) → wpList P l0.toArray (Exit.then K1 fun _ _ _ => False) [o1] a w)
    (k2 : ∀ K1 : Act → World → Prop, (∀ a w, (S w ∧ wpAnyH P .any l0.toArray (Exit.then K fun _ _ _ => False) S fuel (listed.setIfInBounds j true) a w) → K1 a w) → wpList P l0.toArray (Exit.then K1 fun _ _ _ => False) [o2] a w) :
    wpAnyH P .any l0.toArray (Exit.then K fun _ _ _ => False) S n listed a w := by
  subst hn
  have := s1
  have := s2
  refine wpAnyH_all hr (by simp) fun x hx => ?_
  rcases (show x = i ∨ x = j by simpa using hx) with rfl | rfl
  · exact gap.op_of_list h1 k1
  · exact gap.op_of_list h2 k2
end

theorem num.wd_bound : ∀ (j k u : Nat), u < 128 ^ (j + 1) → num.wd k u ≤ j + 1
  | 0, k, u, h => by rw [num.wd_low k u (by simpa using h)]; exact Nat.le_refl _
  | j + 1, k, u, h => by
    by_cases hu : u < 128
    · rw [num.wd_low k u hu]; omega
    · cases k with
      | zero => show 1 ≤ _; omega
      | succ k =>
        rw [num.wd_up k u hu]
        have := num.wd_bound j k (u / 128) (by
          rw [Nat.pow_succ] at h
          exact Nat.div_lt_of_lt_mul (by rw [Nat.mul_comm]; exact h))
        omega
theorem num.widI_pos (n : Int) : 1 ≤ num.widI n := (num.wd_le 9 _).1
theorem num.widI_two {n : Int} (h0 : 0 ≤ n) (h : n ≤ 8000) : num.widI n ≤ 2 := by
  refine num.wd_bound 1 9 _ ?_
  have e : (128 : Nat) ^ (1 + 1) = 16384 := by decide
  rw [e]
  unfold num.zig
  rw [if_pos h0]
  omega
theorem num.widI_eight {n : Int} (h0 : -1125899906842624 ≤ n) (h : n ≤ 1125899906842624) : num.widI n ≤ 8 := by
  refine num.wd_bound 7 9 _ ?_
  have e : (128 : Nat) ^ (7 + 1) = 72057594037927936 := by decide
  rw [e]
  unfold num.zig
  split <;> omega
/-- A record's bytes, its length ahead of it. -/
def Rec.item (r : Rec) (first base : Int) : Int := ((num.widI (r.body first base) : Nat) : Int) + r.body first base
theorem Rec.item_pos {r : Rec} (h : r.ok) (first base : Int) : 0 ≤ r.item first base := by
  have := (Rec.body_le h first base).1
  unfold Rec.item
  omega
theorem Rec.item_le {r : Rec} (h : r.ok) {f g base : Int} (hg0 : 0 ≤ g) (hg : g ≤ 1125899906842624) : r.item g base ≤ r.item f base + 9 := by
  obtain ⟨t0, t1, -, -, -, -⟩ := id h
  have b1 := Rec.body_le h f base
  have b2 := Rec.body_le h g base
  have w1 := num.widI_pos (r.body f base)
  have w2 := num.widI_two b2.1 (by omega)
  have w3 := num.widI_pos (r.time - f)
  have w4 := num.widI_eight (n := r.time - g) (by omega) (by omega)
  have e1 : r.body g base = r.body f base + (num.widI (r.time - g) : Int) - num.widI (r.time - f) := by unfold Rec.body; omega
  unfold Rec.item
  omega
theorem Rec.item_small (r : Rec) (f base : Int) : r.item f base ≤ 49 + r.weight := by
  have z0 := num.widI_le (r.body f base)
  have z1 := num.widI_le (r.time - f)
  have z2 := num.widI_le (r.off - base)
  have z3 := num.widI_le (bat.len r.hasKey r.key.length)
  have z4 := num.widI_le (bat.len r.hasVal r.val.length)
  unfold Rec.item Rec.body Rec.weight
  unfold Rec.body at z0
  omega
theorem Bat.sum_cons (f base : Int) (r : Rec) (rs : List Rec) : Bat.sum f base (r :: rs) = r.item f base + Bat.sum f base rs := by unfold Bat.sum Rec.item; simp
theorem gap.sum {f g base : Int} (hg0 : 0 ≤ g) (hg : g ≤ 1125899906842624) {ks rs : List Rec} (h : ks.Sublist rs) (ho : ∀ r ∈ rs, r.ok) :
    Bat.sum g base ks ≤ Bat.sum f base rs + 9 * rs.length ∧ Bat.sum g base ks ≤ (rs.map fun r => 49 + r.weight).sum := by
  induction h with
  | slnil => simp [Bat.sum]
  | cons x _ ih =>
    have := ih fun r hr => ho r (List.mem_cons_of_mem _ hr)
    have hx := ho x (List.mem_cons_self ..)
    have h1 := Rec.item_pos hx f base
    rw [Bat.sum_cons]
    simp only [List.length_cons, List.map_cons, List.sum_cons]
    have h2 : 0 ≤ x.weight := by unfold Rec.weight; omega
    omega
  | cons_cons x _ ih =>
    have := ih fun r hr => ho r (List.mem_cons_of_mem _ hr)
    have hx := ho x (List.mem_cons_self ..)
    have h1 := Rec.item_le (f := f) (base := base) hx hg0 hg
    have h2 := Rec.item_small x g base
    rw [Bat.sum_cons, Bat.sum_cons]
    simp only [List.length_cons, List.map_cons, List.sum_cons]
    omega
theorem gap.mono {last a a' : Int} {ks : List Rec} (h : bat.chks last a' ks = 0) (ha : a ≤ a') : bat.chks last a ks = 0 := by
  cases ks with
  | nil => rfl
  | cons x xs =>
    rw [bat.chks_cons] at h ⊢
    split at h
    · cases h
    · rename_i h1
      rw [if_neg (by omega)]
      exact h
theorem gap.chks {last : Int} {ks rs : List Rec} (h : ks.Sublist rs) : ∀ a : Int, bat.chks last a rs = 0 → bat.chks last a ks = 0 := by
  induction h with
  | slnil => exact fun _ _ => rfl
  | cons x _ ih =>
    intro a ha
    rw [bat.chks_cons] at ha
    split at ha
    · cases ha
    · rename_i h1
      split at ha
      · rename_i h2; exact absurd ha h2
      · exact gap.mono (ih x.off ha) (by omega)
  | cons_cons x _ ih =>
    intro a ha
    rw [bat.chks_cons] at ha ⊢
    split at ha
    · cases ha
    · rename_i h1
      rw [if_neg h1]
      split at ha
      · rename_i h2; exact absurd ha h2
      · rename_i h2
        rw [if_neg h2]
        exact ih x.off ha
def Bat.keep (b : Bat) (ks : List Rec) : Bat := ⟨b.base, b.last, b.prod, b.epoch, b.seq, ks⟩
theorem sum_49 (rs : List Rec) : (rs.map fun r => 49 + r.weight).sum = 49 * rs.length + (rs.map Rec.weight).sum := by
  induction rs with
  | nil => rfl
  | cons r rs ih =>
    simp only [List.map_cons, List.sum_cons, List.length_cons]
    omega
theorem gap.ok {b : Bat} (hc : b.check = 0) (hw : b.weight ≤ 5000) {ks : List Rec} (h : ks.Sublist b.recs) : (b.keep ks).check = 0 ∧ (b.keep ks).size ≤ b.size + 9 * b.recs.length := by
  obtain ⟨hm, h100, ho, hsz⟩ := Bat.check_ok hc
  have hko : ∀ r ∈ ks, r.ok := fun r hr => ho r (h.subset hr)
  obtain ⟨g0, g1⟩ := Bat.first_ok (b := b.keep ks) hko
  have hs := gap.sum (f := Bat.first b.recs) (base := b.base) g0 g1 h ho
  have hl := h.length_le
  have hch : bat.chks b.last (b.base - 1) b.recs = 0 := by
    unfold Bat.check at hc
    rw [if_neg (fun h => h hm), if_neg (by omega)] at hc
    split at hc
    · rename_i h2; exact absurd hc h2
    · omega
  have hwt : (b.recs.map Rec.weight).sum ≤ 4999 := by unfold Bat.weight at hw; omega
  rw [sum_49] at hs
  have hks : (b.keep ks).size = 50 + Bat.sum (Bat.first ks) b.base ks := rfl
  have hbs : b.size = 50 + Bat.sum (Bat.first b.recs) b.base b.recs := rfl
  have hmk : (b.keep ks).may := hm
  have hlk : (b.keep ks).recs.length = ks.length := rfl
  have hs1 : Bat.sum (Bat.first ks) b.base ks ≤ Bat.sum (Bat.first b.recs) b.base b.recs + 9 * b.recs.length := hs.1
  have hs2 : Bat.sum (Bat.first ks) b.base ks ≤ 49 * b.recs.length + (b.recs.map Rec.weight).sum := hs.2
  refine ⟨?_, by omega⟩
  unfold Bat.check
  rw [if_neg (fun h => h hmk), if_neg (by rw [hlk]; omega), show bat.chks (b.keep ks).last ((b.keep ks).base - 1) (b.keep ks).recs = 0 from gap.chks h _ hch, if_neg (fun h => h rfl), if_neg (by omega)]

/-- A row of copies of records that lie in w. -/
def RowW (w : World) (B : Nat) (wr : World) (v : Value) (ks : List Rec) : Prop :=
  ∃ xs, wr.ownsRow B 62 6 v ks.length xs ∧ ∀ (i : Nat) (r : Rec), ks[i]? = some r → RecR w ((List.range 6).map fun j => xs.getD (i * 6 + j) undef) r
theorem RowW.nil (w : World) (B : Nat) (wr : World) : RowW w B wr (.slice none 0 0) [] := ⟨[], World.ownsRow_nil _ _ _ _, fun i r h => by cases h⟩
theorem RowW.recsV {w wr : World} {B : Nat} {v : Value} {ks : List Rec} (h : RowW w B wr v ks) (hb : Below w.heap.size w wr) : ∃ A c, v = .slice A ks.length c ∧ RecsV wr (.slice A ks.length c) ks := by
  obtain ⟨xs, h1, h2⟩ := h
  obtain ⟨A, c, rfl, hc, hat⟩ := own_at h1
  exact ⟨A, c, rfl, A, c, _, rfl, hc, own_cap h1, hat, fun i r hr => (h2 i r hr).below hb (Nat.le_refl _)⟩
theorem RowW.chg {w wr w' : World} {B : Nat} {v : Value} {ks : List Rec} {P : Nat → Prop} (h : RowW w B wr v ks) (hc : Chg wr w' P) (hp : ∀ g, B ≤ g → ¬ P g) : RowW w B w' v ks := by
  obtain ⟨xs, h1, h2⟩ := h
  exact ⟨xs, hc.own h1 fun k hk => hp k (h1.lt k hk).1, h2⟩
theorem RowW.append {w w' : World} {B : Nat} {v' : Value} {ks : List Rec} {xs cs : List Value} {r : Rec}
    (h2 : ∀ (i : Nat) (r : Rec), ks[i]? = some r → RecR w ((List.range 6).map fun j => xs.getD (i * 6 + j) undef) r) (hl : xs.length = ks.length * 6) (hc : cs.length = 6) (hr : RecR w cs r)
    (hown : w'.ownsRow B 62 6 v' (ks.length + 1) (xs ++ cs)) : RowW w B w' v' (ks ++ [r]) := by
  refine ⟨_, by rw [List.length_append]; exact hown, fun i x hx => ?_⟩
  by_cases hi : i < ks.length
  · rw [List.getElem?_append_left hi] at hx
    have g := h2 i x hx
    have e : ((List.range 6).map fun j => (xs ++ cs).getD (i * 6 + j) undef) = (List.range 6).map fun j => xs.getD (i * 6 + j) undef := by
      refine List.map_congr_left fun j hj => ?_
      have hj : j < 6 := by simpa using hj
      simp only [List.getD]
      rw [List.getElem?_append_left (by omega)]
    rw [e]
    exact g
  · have hi2 : i = ks.length := by
      have := (List.getElem?_eq_some_iff.1 hx).1
      rw [List.length_append] at this
      simp at this
      omega
    subst hi2
    obtain rfl : r = x := by simpa using hx
    have e : ((List.range 6).map fun j => (xs ++ cs).getD (ks.length * 6 + j) undef) = cs := by
      match cs, hc with
      | [c0, c1, c2, c3, c4, c5], _ =>
        simp only [List.range, List.range.loop, List.map_cons, List.map_nil, List.getD]
        rw [List.getElem?_append_right (by omega), List.getElem?_append_right (by omega), List.getElem?_append_right (by omega), List.getElem?_append_right (by omega), List.getElem?_append_right (by omega), List.getElem?_append_right (by omega)]
        simp [hl]
    rw [e]
    exact hr
theorem recsSame_refl : ∀ rs : List Rec, recsSame rs rs = true
  | [] => rfl
  | r :: rs => by
    show (decide (r.Same r) && recsSame rs rs) = true
    rw [recsSame_refl rs, decide_eq_true (show r.Same r from ⟨rfl, rfl, rfl, rfl, rfl, rfl⟩)]
    rfl
theorem Bat.same_refl (b : Bat) : b.same b = true := by
  unfold Bat.same
  rw [recsSame_refl, decide_eq_true (show b.heads b from ⟨rfl, rfl, rfl, rfl, rfl⟩)]
  rfl
theorem Bat.bytes_byte {b : Bat} (hc : b.check = 0) (hb : ∀ r ∈ b.recs, (∀ x ∈ r.key, x < 256) ∧ (∀ x ∈ r.val, x < 256)) : ∀ x ∈ b.bytes, x < 256 := by
  obtain ⟨hm, -, ho, -⟩ := Bat.check_ok hc
  have hs := Bat.summed_byte hm ho hb
  unfold Bat.bytes Bat.front
  intro x hx
  simp only [List.mem_append] at hx
  rcases hx with ((h | h) | h) | h
  · exact wire.be_byte _ _ x h
  · exact wire.be_byte _ _ x h
  · exact wire.be_byte _ _ x h
  · exact hs x h

set_option maxRecDepth 20000 in
set_option maxHeartbeats 4000000 in
theorem bat.lawGaps (b : Bat) (A : Option Addr) (c : Nat) (Ak : Option Addr) (nk ck : Nat) (kb : Nat → Bool) (w : World) (hv : RecsV w (.slice A b.recs.length c) b.recs) (hk : At w Ak nk (fun j => .bool (kb j))) (hnk : nk ≤ ck ∧ ck ≤ maxLen) :
    Calls Try.prog 10 #[b.hval A b.recs.length c, .slice Ak nk ck] w fun e w' => e = .returned (.bool true) ∧ Below w.heap.size w w' := by
  obtain ⟨i0, hi, hz0, hz1, hz2⟩ := info_parts bat.infoRec
  have HI := Lib.hid (And.intro hi (And.intro hz0 (And.intro hz1 hz2))); clear hi hz0 hz1 hz2
  have hlen : b.recs.length ≤ maxLen := by
    obtain ⟨A', c', V, h, h1, h2, -⟩ := hv
    exact Nat.le_trans h1 h2
  unfold maxLen at hlen hnk
  have HV := Lib.hid hv; clear hv
  have HKP := Lib.hid hk; clear hk
  have hgo : ∀ wx, Calls Try.prog 12 #[] wx fun e w' => e = .returned (.bool true) ∧ Below wx.heap.size wx w' := law5.awake
  have HGO := Lib.hid hgo; clear hgo
  have hwg := fun wx (h : Below w.heap.size w wx) => alike.batch_any b _ wx (HV.out.below h (Nat.le_refl _))
  have hckq := fun wx (h : Below w.heap.size w wx) => ref.check_any b A c wx (HV.out.below h (Nat.le_refl _))
  have hszb := fun wx (h : Below w.heap.size w wx) => bat.sizeof_any b A c wx (HV.out.below h (Nat.le_refl _))
  obtain ⟨E, hE⟩ : ∃ E, E = b.check := ⟨_, rfl⟩
  obtain ⟨W, hW⟩ : ∃ W, W = b.weight := ⟨_, rfl⟩
  obtain ⟨Z, hZ⟩ : ∃ Z, Z = b.sizeof := ⟨_, rfl⟩
  obtain ⟨n, hn⟩ : ∃ n, n = b.recs.length := ⟨_, rfl⟩
  rw [← hE] at hckq
  rw [← hW] at hwg
  rw [← hZ] at hszb
  unfold Bat.hval at *
  rw [← hn] at hckq hszb hwg HV hlen ⊢
  have HN := Lib.hid hn; clear hn
  have HEW := Lib.hid (And.intro hE (And.intro hW hZ)); clear hE hW hZ
  have HWG := Lib.hid hwg; clear hwg
  have HCKQ := Lib.hid hckq; clear hckq
  have HSZB := Lib.hid hszb; clear hszb
  go_enter Try.func10, Try.ntmps10
  go_wp2_with fail
  obtain ⟨w1, hw1⟩ : ∃ w1, w1 = w.alloc (.cells #[.int .i64 b.base, .int .i64 b.last, .int .i64 b.prod, .int .i64 b.epoch, .int .i64 b.seq, .slice A n c] 24) := ⟨_, rfl⟩
  rw [← hw1]
  have hbk : Blk w1 w.heap.size 24 #[.int .i64 b.base, .int .i64 b.last, .int .i64 b.prod, .int .i64 b.epoch, .int .i64 b.seq, .slice A n c] := by rw [hw1]; exact Blk.new _ _ _
  have hb1 : Below w.heap.size w w1 := by rw [hw1]; exact (Below.refl _ w).alloc (Nat.le_refl _) _
  clear hw1
  have HBK := Lib.hid hbk; clear hbk
  have HB1 := Lib.hid hb1; clear hb1
  refine (HWG.out w1 HB1.out).mono ?_
  rintro e w2 ⟨rfl, hb2⟩
  have HK2 := Lib.hid ((chg_of (P := fun _ => False) hb2).blk HBK.out id)
  have HB2 := Lib.hid (HB1.out.trans (hb2.mono HB1.out.size)); clear hb2 HBK HB1 HWG
  have c0 : w2.cell? ⟨w.heap.size, 0, none⟩ = some (.int .i64 b.base) := HK2.out.cell 0 rfl
  have c1 : w2.cell? ⟨w.heap.size, 1, none⟩ = some (.int .i64 b.last) := HK2.out.cell 1 rfl
  have c2 : w2.cell? ⟨w.heap.size, 2, none⟩ = some (.int .i64 b.prod) := HK2.out.cell 2 rfl
  have c3 : w2.cell? ⟨w.heap.size, 3, none⟩ = some (.int .i64 b.epoch) := HK2.out.cell 3 rfl
  have c4 : w2.cell? ⟨w.heap.size, 4, none⟩ = some (.int .i64 b.seq) := HK2.out.cell 4 rfl
  have c5 : w2.cell? ⟨w.heap.size, 5, none⟩ = some (.slice A n c) := HK2.out.cell 5 rfl
  by_cases hsm : 5000 < W ∨ 100 < n
  · have hsm2 : 5000 < W ∨ (¬ 5000 < W ∧ 100 < n) := by omega
    clear hsm
    rcases hsm2 with h1 | ⟨h1, h2⟩
    all_goals
      go_wp2_with fail
      refine (HGO.out w2).mono ?_
      rintro e w3 ⟨rfl, hb3⟩
      have HL3 := Lib.hid (HB2.out.trans (hb3.mono HB2.out.size)); clear hb3
      go_wp2
      go_ret
      exact ⟨rfl, HL3.out⟩
  · have h1 : ¬ 5000 < W := by omega
    have h2 : ¬ 100 < n := by omega
    clear hsm
    go_wp2_with fail
    refine (HCKQ.out w2 HB2.out).mono ?_
    rintro e w3 ⟨rfl, hb3⟩
    have HK3 := Lib.hid ((chg_of (P := fun _ => False) hb3).blk HK2.out id)
    have HB3 := Lib.hid (HB2.out.trans (hb3.mono HB2.out.size)); clear hb3 HK2 HB2 HCKQ c0 c1 c2 c3 c4 c5
    by_cases hE0 : E = 0
    · have hd : (E != 0) = false := by simpa using hE0
      have hchk : b.check = 0 := by rw [← HEW.out.1]; exact hE0
      have hwt : b.weight ≤ 5000 := by rw [← HEW.out.2.1]; omega
      have HCW := Lib.hid (And.intro hchk hwt); clear hchk hwt hE0
      have hn100 : n ≤ 100 := by omega

      have c0 : w3.cell? ⟨w.heap.size, 0, none⟩ = some (.int .i64 b.base) := HK3.out.cell 0 rfl
      have c1 : w3.cell? ⟨w.heap.size, 1, none⟩ = some (.int .i64 b.last) := HK3.out.cell 1 rfl
      have c2 : w3.cell? ⟨w.heap.size, 2, none⟩ = some (.int .i64 b.prod) := HK3.out.cell 2 rfl
      have c3 : w3.cell? ⟨w.heap.size, 3, none⟩ = some (.int .i64 b.epoch) := HK3.out.cell 3 rfl
      have c4 : w3.cell? ⟨w.heap.size, 4, none⟩ = some (.int .i64 b.seq) := HK3.out.cell 4 rfl
      have c5 : w3.cell? ⟨w.heap.size, 5, none⟩ = some (.slice A n c) := HK3.out.cell 5 rfl
      go_upto_region 3 with fail
      clear h1 h2 hd
      try generalize decide (5000 < W) = dw
      try generalize decide (100 < (n : Int)) = dn
      have HN100 := Lib.hid hn100; clear hn100
      go_upto_region 5 with fail
      obtain ⟨w4, hw4⟩ : ∃ w4, w4 = w3.alloc (.cells #[.int .i64 b.base, .int .i64 b.last, .int .i64 b.prod, .int .i64 b.epoch, .int .i64 b.seq, .slice none 0 0] 24) := ⟨_, rfl⟩
      rw [← hw4]
      have HK4 := Lib.hid (show Blk w4 w.heap.size 24 #[.int .i64 b.base, .int .i64 b.last, .int .i64 b.prod, .int .i64 b.epoch, .int .i64 b.seq, .slice A n c] by rw [hw4]; exact (Chg.alloc _ _ (fun _ => False)).blk HK3.out id)
      have HKC4 := Lib.hid (show Blk w4 w3.heap.size 24 #[.int .i64 b.base, .int .i64 b.last, .int .i64 b.prod, .int .i64 b.epoch, .int .i64 b.seq, .slice none 0 0] by rw [hw4]; exact Blk.new _ _ _)
      have HB4 := Lib.hid (show Below w.heap.size w w4 by rw [hw4]; exact HB3.out.alloc HB3.out.size _)
      have hne : w.heap.size ≠ w3.heap.size := by have := HK3.out.lt; omega
      have hltc : w3.heap.size < w4.heap.size := HKC4.out.lt
      have hle3 : w.heap.size ≤ w3.heap.size := HB3.out.size
      clear hw4 c0 c1 c2 c3 c4 c5
      obtain ⟨bc, hbc⟩ : ∃ bc, bc = w3.heap.size := ⟨_, rfl⟩
      rw [← hbc] at HKC4 hne hltc hle3 ⊢
      have HBC := Lib.hid hbc; clear hbc
      go_wp2_with fail
      go_loopw [6] (fun i wr => ∃ (j : Nat) (ks : List Rec) (v : Value), j ≤ n ∧ i = .int .i64 (j : Int) ∧ ks.Sublist (b.recs.take j) ∧ RowW w w4.heap.size wr v ks ∧ Blk wr bc 24 #[.int .i64 b.base, .int .i64 b.last, .int .i64 b.prod, .int .i64 b.epoch, .int .i64 b.seq, v] ∧ Chg w4 wr (fun k => k = bc)) (fun i _ => n - (intOf i).toNat)
      case atStart => exact ⟨0, [], .slice none 0 0, by omega, rfl, List.Sublist.slnil, RowW.nil _ _ _, HKC4.out, Chg.refl _ _⟩
      case round =>
        obtain ⟨j, ks, v, hj, rfl, hsub, hrow, hkc, hch⟩ := hrel
        have HSUB := Lib.hid hsub; clear hsub
        have HKC := Lib.hid hkc; clear hkc
        have HCH := Lib.hid hch; clear hch
        have hbwr : Below w.heap.size w wr := HB4.out.trans (HCH.out.below HB4.out.size fun k hk => by have hk : k = bc := hk; omega)
        have HBWR := Lib.hid hbwr; clear hbwr
        obtain ⟨Av, cv, hveq, hrv⟩ := hrow.recsV HBWR.out
        subst hveq
        obtain ⟨m, hm⟩ : ∃ m, m = ks.length := ⟨_, rfl⟩
        rw [← hm] at HKC
        have hrow2 : RowW w w4.heap.size wr (.slice Av m cv) ks := by rw [hm]; exact hrow
        have hrv2 : RecsV wr (.slice Av m cv) ks := by rw [hm]; exact hrv
        have hml : m ≤ j := by rw [hm]; have := HSUB.out.length_le; rw [List.length_take] at this; omega
        have HM := Lib.hid hm; clear hm hrow hrv
        have HROW := Lib.hid hrow2; clear hrow2
        have HRV := Lib.hid hrv2; clear hrv2
        have HKR := Lib.hid (HCH.out.blk HK4.out hne)
        have q5 : wr.cell? ⟨w.heap.size, 5, none⟩ = some (.slice A n c) := HKR.out.cell 5 rfl
        have hltwr : w4.heap.size ≤ wr.heap.size := HCH.out.size
        have HSKIP := Lib.hid (show j < n → ks.Sublist (b.recs.take (j + 1)) from fun _ => HSUB.out.trans (by
          have h := List.take_sublist j (b.recs.take (j + 1))
          rw [List.take_take, Nat.min_eq_left (by omega)] at h
          exact h))
        by_cases hlt : j < n
        · by_cases hjk : j < nk
          · obtain ⟨pk, ok, rfl, hpk, hkc0⟩ := (HKP.out.below HBWR.out (Nat.le_refl _)) (by omega)
            have hkj : wr.cell? ⟨pk, ok + j, none⟩ = some (.bool (kb j)) := hkc0 j hjk
            clear hkc0
            cases hkb : kb j with
            | false =>
              rw [hkb] at hkj
              clear hkb
              go_wp2_with fail
              go_roundw
              case rel => exact ⟨j + 1, ks, .slice Av m cv, by omega, by go_num, HSKIP.out hlt, HROW.out, HKC.out, HCH.out⟩
              case measure => simp [intOf]; omega
            | true =>
              rw [hkb] at hkj
              clear hkb
              obtain ⟨x, hx⟩ : ∃ x, b.recs[j]? = some x := ⟨_, List.getElem?_eq_getElem (by rw [← HN.out]; exact hlt)⟩
              obtain ⟨p, off, c', kv, vv, hA, -, -, hp, d0, d1, d2, d3, d4, d5, hkv, hvv, ho, ht⟩ := HV.out.at' hx
              obtain ⟨rfl, rfl⟩ : A = some ⟨p, off, none⟩ ∧ c = c' := by rw [← HN.out] at hA; simpa using hA
              have hrr : RecR w [.int .i64 x.off, .int .i64 x.time, .bool x.hasKey, kv, .bool x.hasVal, vv] x := ⟨kv, vv, rfl, hkv, hvv, ho, ht⟩
              have HRR := Lib.hid hrr; clear hrr
              obtain ⟨Akv, ckv, rfl, -, -, -, -⟩ := hkv
              obtain ⟨Avv, cvv, rfl, -, -, -, -⟩ := hvv
              have hnx : (ks ++ [x]).Sublist (b.recs.take (j + 1)) := by
                rw [List.take_succ_eq_append_getElem (by rw [← HN.out]; exact hlt)]
                have e : b.recs[j]'(by rw [← HN.out]; exact hlt) = x := (List.getElem?_eq_some_iff.1 hx).2
                rw [e]
                exact HSUB.out.append (List.Sublist.refl _)
              have HNX := Lib.hid hnx; clear hnx hA hx
              have hcell : ∀ k u, w.cell? ⟨p, k, none⟩ = some u → wr.cell? ⟨p, k, none⟩ = some u := fun k u h => (HBWR.out.cell hp).trans h
              have r0 := hcell _ _ d0
              have r1 := hcell _ _ d1
              have r2 := hcell _ _ d2
              have r3 := hcell _ _ d3
              have r4 := hcell _ _ d4
              have r5 := hcell _ _ d5
              have hpr : p < wr.heap.size := by have := HBWR.out.size; omega
              clear d0 d1 d2 d3 d4 d5 hcell ho ht hp
              go_upto_region 9 with fail
              obtain ⟨wz, hwz⟩ : ∃ wz, wz = wr.drew := ⟨_, rfl⟩
              have s0 : wz.cell? ⟨p, off + j * 6, none⟩ = some (.int .i64 x.off) := by rw [hwz]; exact r0
              have s1 : wz.cell? ⟨p, off + j * 6 + 1, none⟩ = some (.int .i64 x.time) := by rw [hwz]; exact r1
              have s2 : wz.cell? ⟨p, off + j * 6 + 2, none⟩ = some (.bool x.hasKey) := by rw [hwz]; exact r2
              have s3 : wz.cell? ⟨p, off + j * 6 + 3, none⟩ = some (.slice Akv x.key.length ckv) := by rw [hwz]; exact r3
              have s4 : wz.cell? ⟨p, off + j * 6 + 4, none⟩ = some (.bool x.hasVal) := by rw [hwz]; exact r4
              have s5 : wz.cell? ⟨p, off + j * 6 + 5, none⟩ = some (.slice Avv x.val.length cvv) := by rw [hwz]; exact r5
              have t5 : wz.cell? ⟨w.heap.size, 5, none⟩ = some (.slice (some ⟨p, off, none⟩) n c) := by rw [hwz]; exact q5
              have t6 : wz.cell? ⟨bc, 5, none⟩ = some (.slice Av m cv) := by rw [hwz]; exact HKC.out.cell 5 rfl
              have hpz : p < wz.heap.size := by rw [hwz]; exact hpr
              have HWZ := Lib.hid hwz
              have hS0 : later wr (fun k => bc ≤ k) wr.drew := later_of ((Chg.refl _ _).drew)
              refine wp_plan (S := fun w0 => ∃ x : Later wr (fun k => bc ≤ k), w0 = x.1) (by kernel_rfl) hS0 ?_
              intro hS K hK
              rw [← hwz] at hS ⊢
              have HS := Lib.hid hS; clear hS hS0 hwz r0 r1 r2 r3 r4 r5 hkj q5
              refine plan_group [true, false, true, false, true] [0, 2, 4] 8 (by dsimp only [sel]) (by rfl) rfl (by kernel_rfl) (by kernel_rfl) HS.out ?_
              (repeat go_big_quiet_step (fail)); refine wpQuiet_nil ?_
              refine plan_both [false, true] [false, false, false, true] 1 3 7 (by dsimp only [sel]) (by dsimp only [sel]) (by rfl) (by rfl) rfl (by kernel_rfl) ?_ ?_
              · intro K1 hK1; go_wp2_with fail
                refine ⟨HS.out, ?_⟩
                refine plan_one [false, false, false, true] 3 6 (by dsimp only [sel]) (by rfl) rfl (by kernel_rfl) ?_; intro K1 hK1; go_wp2_with fail
                refine ⟨HS.out, ?_⟩
                refine plan_group [false, false, false, false, false, true] [5] 5 (by dsimp only [sel]) (by rfl) rfl (by kernel_rfl) (by kernel_rfl) HS.out ?_
                (repeat go_big_quiet_step (fail)); refine wpQuiet_nil ?_
                refine plan_one [false, false, false, false, false, false, true] 6 4 (by dsimp only [sel]) (by rfl) rfl (by kernel_rfl) ?_; intro K1 hK1; go_wp2_with fail
                refine ⟨HS.out, ?_⟩
                refine plan_one [false, false, false, false, false, false, false, true] 7 3 (by dsimp only [sel]) (by rfl) rfl (by kernel_rfl) ?_; intro K1 hK1; go_wp2_with fail
                obtain ⟨w5, hw5⟩ : ∃ w5, w5 = wz.alloc (.cells #[.int .i64 x.off, .int .i64 x.time, .bool x.hasKey, .slice Akv x.key.length ckv, .bool x.hasVal, .slice Avv x.val.length cvv] 62) := ⟨_, rfl⟩
                rw [← hw5]
                have hb5 : Below wr.heap.size wr w5 := by rw [hw5, HWZ.out]; exact (bdrew (Below.refl wr.heap.size wr) 1).alloc (by simp) _
                have hat5 : At w5 (some ⟨wz.heap.size, 0, none⟩) (1 * 6) (fun j => ([.int .i64 x.off, .int .i64 x.time, .bool x.hasKey, .slice Akv x.key.length ckv, .bool x.hasVal, .slice Avv x.val.length cvv] : List Value).getD j undef) := by
                  rw [hw5]
                  exact (At.new wz #[.int .i64 x.off, .int .i64 x.time, .bool x.hasKey, .slice Akv x.key.length ckv, .bool x.hasVal, .slice Avv x.val.length cvv] 62 (n := 1 * 6) rfl).congr fun j hj => by match j, hj with | 0, _ => rfl | 1, _ => rfl | 2, _ => rfl | 3, _ => rfl | 4, _ => rfl | 5, _ => rfl
                have HK5 := Lib.hid ((chg_of (P := fun _ => False) hb5).blk HKC.out id)
                have t7 : w5.cell? ⟨bc, 5, none⟩ = some (.slice Av m cv) := HK5.out.cell 5 rfl
                have HB5 := Lib.hid hb5; clear hb5 hw5
                have HAT5 := Lib.hid hat5; clear hat5
                have HS5 := Lib.hid (later_of (chg_of (P := fun k => bc ≤ k) HB5.out))
                clear t6 s0 s1 s2 s3 s4 s5 t5
                refine ⟨HS5.out, ?_⟩
                obtain ⟨xs, hown, hcells⟩ := HROW.out
                have hxl := hown.1
                have hown5 := own_below hown HB5.out
                rw [← HM.out] at hown5
                have HOWN := Lib.hid hown5; clear hown5
                have hsz5 : w4.heap.size ≤ w5.heap.size := Nat.le_trans hltwr HB5.out.size
                have happ : ∀ v2 w6, w6.ownsRow w4.heap.size 62 6 v2 (m + 1) (xs ++ cellsOf (1 * 6) (fun j => ([.int .i64 x.off, .int .i64 x.time, .bool x.hasKey, .slice Akv x.key.length ckv, .bool x.hasVal, .slice Avv x.val.length cvv] : List Value).getD j undef)) → w5.grownBy w6 (Value.slice Av m cv).ownBlock →
                    RowW w w4.heap.size w6 v2 (ks ++ [x]) ∧ Chg w4 w6 (fun k => k = bc) ∧ Blk w6 bc 24 #[.int .i64 b.base, .int .i64 b.last, .int .i64 b.prod, .int .i64 b.epoch, .int .i64 b.seq, .slice Av m cv] ∧ Chg wr w6 (fun k => bc ≤ k) := fun v2 w6 h1 h2 => by
                  have hgr : Chg w5 w6 (fun k => w4.heap.size ≤ k) := (Chg.grown h2).mono fun k _ hk => (hown.lt k hk).1
                  refine ⟨RowW.append hcells hxl rfl HRR.out (by rw [← HM.out]; exact h1), (HCH.out.trans (chg_of (P := fun _ => False) HB5.out) (fun _ _ h => h.elim)).trans hgr (fun k hk h => by have h : w4.heap.size ≤ k := h; omega), hgr.blk HK5.out (fun h => by have h : w4.heap.size ≤ bc := h; omega), (chg_of (P := fun k => bc ≤ k) HB5.out).trans hgr (fun k _ h => by have h : w4.heap.size ≤ k := h; omega)⟩
                have HAPP := Lib.hid happ; clear happ hcells hxl hown
                refine plan_one [false, false, false, false, false, false, false, false, true] 8 2 (by dsimp only [sel]) (by rfl) rfl (by kernel_rfl) ?_; intro K1 hK1; go_wp2_with (at_builtin; go_loud (refine wpList_app2 _ rfl (.tmp 46) (.tmp 52) 22 rfl w4.heap.size 62 i0 _ 6 80 Try.underlying22 HI.out.1 HI.out.2.1 HI.out.2.2.1 HI.out.2.2.2 rfl (by decide) _ m xs rfl HOWN.out (some ⟨wz.heap.size, 0, none⟩) 1 1 _ rfl HAT5.out (fun j hj => by match j, hj with | 0, _ => rfl | 1, _ => rfl | 2, _ => rfl | 3, _ => rfl | 4, _ => rfl | 5, _ => rfl) (by unfold maxLen; omega) (by omega) hsz5 ?_; intro v2 w6 h1 h2 h3; clear h3; have HA6 := Lib.hid (HAPP.out v2 w6 h1 h2); clear h1 h2))
                go_simp
                obtain ⟨Av2, cv2, hv2, -⟩ := HA6.out.1.recsV (HB4.out.trans (HA6.out.2.1.below HB4.out.size fun k hk => by have hk : k = bc := hk; omega))
                subst hv2
                obtain ⟨m2, hm2⟩ : ∃ m2, m2 = (ks ++ [x]).length := ⟨_, rfl⟩
                rw [← hm2] at HA6 ⊢
                clear hm2
                have t8 : w6.cell? ⟨bc, 5, none⟩ = some (.slice Av m cv) := HA6.out.2.2.1.cell 5 rfl
                have t9 : w6.frozen? ⟨bc, 5, none⟩ = false := HA6.out.2.2.1.frozen 5
                have HS6 := Lib.hid (later_of HA6.out.2.2.2)
                refine ⟨HS6.out, ?_⟩
                clear t7
                refine plan_group [false, false, false, false, false, false, false, false, false, true] [9] 1 (by dsimp only [sel]) (by rfl) rfl (by kernel_rfl) (by kernel_rfl) HS6.out ?_
                (repeat go_big_quiet_step (fail)); refine wpQuiet_nil ?_
                refine plan_one [false, false, false, false, false, false, false, false, false, false, true] 10 0 (by dsimp only [sel]) (by rfl) rfl (by kernel_rfl) ?_; intro K1 hK1; go_wp2_with fail
                obtain ⟨w7, hw7⟩ : ∃ w7, w7 = w6.setCell ⟨bc, 5, none⟩ (.slice Av2 m2 cv2) := ⟨_, rfl⟩
                rw [← hw7]
                have hc7 : Chg w6 w7 (fun k => k = bc) := by rw [hw7]; exact Chg.setCell w6 bc 5 _
                have HK7 := Lib.hid (show Blk w7 bc 24 #[.int .i64 b.base, .int .i64 b.last, .int .i64 b.prod, .int .i64 b.epoch, .int .i64 b.seq, .slice Av2 m2 cv2] by rw [hw7]; exact HA6.out.2.2.1.set 5 _)
                have HR7 := Lib.hid (HA6.out.1.chg hc7 (fun g hg h => by have h : g = bc := h; omega))
                have HC7 := Lib.hid (HA6.out.2.1.trans hc7 (fun _ _ h => h))
                refine ⟨later_of (HA6.out.2.2.2.trans hc7 (fun k _ h => by have h : k = bc := h; omega)), ?_⟩
                clear hw7 hc7 t8 t9
                refine wp_plan_end (by kernel_rfl) ?_
                clear HS HS5 HS6
                refine hK _ _ ?_
                go_wp2_with fail
                go_roundw
                case rel => exact ⟨j + 1, ks ++ [x], .slice Av2 m2 cv2, by omega, by go_num, HNX.out, HR7.out, HK7.out, HC7.out⟩
                case measure => simp [intOf]; omega
              · intro K1 hK1; go_wp2_with fail
                refine ⟨HS.out, ?_⟩
                refine plan_group [false, false, false, false, false, true] [5] 6 (by dsimp only [sel]) (by rfl) rfl (by kernel_rfl) (by kernel_rfl) HS.out ?_
                (repeat go_big_quiet_step (fail)); refine wpQuiet_nil ?_
                refine plan_both [false, true] [false, false, false, false, false, false, true] 1 6 5 (by dsimp only [sel]) (by dsimp only [sel]) (by rfl) (by rfl) rfl (by kernel_rfl) ?_ ?_
                · intro K1 hK1; go_wp2_with fail
                  refine ⟨HS.out, ?_⟩
                  refine plan_one [false, false, false, false, false, false, true] 6 4 (by dsimp only [sel]) (by rfl) rfl (by kernel_rfl) ?_; intro K1 hK1; go_wp2_with fail
                  refine ⟨HS.out, ?_⟩
                  refine plan_one [false, false, false, false, false, false, false, true] 7 3 (by dsimp only [sel]) (by rfl) rfl (by kernel_rfl) ?_; intro K1 hK1; go_wp2_with fail
                  obtain ⟨w5, hw5⟩ : ∃ w5, w5 = wz.alloc (.cells #[.int .i64 x.off, .int .i64 x.time, .bool x.hasKey, .slice Akv x.key.length ckv, .bool x.hasVal, .slice Avv x.val.length cvv] 62) := ⟨_, rfl⟩
                  rw [← hw5]
                  have hb5 : Below wr.heap.size wr w5 := by rw [hw5, HWZ.out]; exact (bdrew (Below.refl wr.heap.size wr) 1).alloc (by simp) _
                  have hat5 : At w5 (some ⟨wz.heap.size, 0, none⟩) (1 * 6) (fun j => ([.int .i64 x.off, .int .i64 x.time, .bool x.hasKey, .slice Akv x.key.length ckv, .bool x.hasVal, .slice Avv x.val.length cvv] : List Value).getD j undef) := by
                    rw [hw5]
                    exact (At.new wz #[.int .i64 x.off, .int .i64 x.time, .bool x.hasKey, .slice Akv x.key.length ckv, .bool x.hasVal, .slice Avv x.val.length cvv] 62 (n := 1 * 6) rfl).congr fun j hj => by match j, hj with | 0, _ => rfl | 1, _ => rfl | 2, _ => rfl | 3, _ => rfl | 4, _ => rfl | 5, _ => rfl
                  have HK5 := Lib.hid ((chg_of (P := fun _ => False) hb5).blk HKC.out id)
                  have t7 : w5.cell? ⟨bc, 5, none⟩ = some (.slice Av m cv) := HK5.out.cell 5 rfl
                  have HB5 := Lib.hid hb5; clear hb5 hw5
                  have HAT5 := Lib.hid hat5; clear hat5
                  have HS5 := Lib.hid (later_of (chg_of (P := fun k => bc ≤ k) HB5.out))
                  clear t6 s0 s1 s2 s3 s4 s5 t5
                  refine ⟨HS5.out, ?_⟩
                  obtain ⟨xs, hown, hcells⟩ := HROW.out
                  have hxl := hown.1
                  have hown5 := own_below hown HB5.out
                  rw [← HM.out] at hown5
                  have HOWN := Lib.hid hown5; clear hown5
                  have hsz5 : w4.heap.size ≤ w5.heap.size := Nat.le_trans hltwr HB5.out.size
                  have happ : ∀ v2 w6, w6.ownsRow w4.heap.size 62 6 v2 (m + 1) (xs ++ cellsOf (1 * 6) (fun j => ([.int .i64 x.off, .int .i64 x.time, .bool x.hasKey, .slice Akv x.key.length ckv, .bool x.hasVal, .slice Avv x.val.length cvv] : List Value).getD j undef)) → w5.grownBy w6 (Value.slice Av m cv).ownBlock →
                      RowW w w4.heap.size w6 v2 (ks ++ [x]) ∧ Chg w4 w6 (fun k => k = bc) ∧ Blk w6 bc 24 #[.int .i64 b.base, .int .i64 b.last, .int .i64 b.prod, .int .i64 b.epoch, .int .i64 b.seq, .slice Av m cv] ∧ Chg wr w6 (fun k => bc ≤ k) := fun v2 w6 h1 h2 => by
                    have hgr : Chg w5 w6 (fun k => w4.heap.size ≤ k) := (Chg.grown h2).mono fun k _ hk => (hown.lt k hk).1
                    refine ⟨RowW.append hcells hxl rfl HRR.out (by rw [← HM.out]; exact h1), (HCH.out.trans (chg_of (P := fun _ => False) HB5.out) (fun _ _ h => h.elim)).trans hgr (fun k hk h => by have h : w4.heap.size ≤ k := h; omega), hgr.blk HK5.out (fun h => by have h : w4.heap.size ≤ bc := h; omega), (chg_of (P := fun k => bc ≤ k) HB5.out).trans hgr (fun k _ h => by have h : w4.heap.size ≤ k := h; omega)⟩
                  have HAPP := Lib.hid happ; clear happ hcells hxl hown
                  refine plan_one [false, false, false, false, false, false, false, false, true] 8 2 (by dsimp only [sel]) (by rfl) rfl (by kernel_rfl) ?_; intro K1 hK1; go_wp2_with (at_builtin; go_loud (refine wpList_app2 _ rfl (.tmp 46) (.tmp 52) 22 rfl w4.heap.size 62 i0 _ 6 80 Try.underlying22 HI.out.1 HI.out.2.1 HI.out.2.2.1 HI.out.2.2.2 rfl (by decide) _ m xs rfl HOWN.out (some ⟨wz.heap.size, 0, none⟩) 1 1 _ rfl HAT5.out (fun j hj => by match j, hj with | 0, _ => rfl | 1, _ => rfl | 2, _ => rfl | 3, _ => rfl | 4, _ => rfl | 5, _ => rfl) (by unfold maxLen; omega) (by omega) hsz5 ?_; intro v2 w6 h1 h2 h3; clear h3; have HA6 := Lib.hid (HAPP.out v2 w6 h1 h2); clear h1 h2))
                  go_simp
                  obtain ⟨Av2, cv2, hv2, -⟩ := HA6.out.1.recsV (HB4.out.trans (HA6.out.2.1.below HB4.out.size fun k hk => by have hk : k = bc := hk; omega))
                  subst hv2
                  obtain ⟨m2, hm2⟩ : ∃ m2, m2 = (ks ++ [x]).length := ⟨_, rfl⟩
                  rw [← hm2] at HA6 ⊢
                  clear hm2
                  have t8 : w6.cell? ⟨bc, 5, none⟩ = some (.slice Av m cv) := HA6.out.2.2.1.cell 5 rfl
                  have t9 : w6.frozen? ⟨bc, 5, none⟩ = false := HA6.out.2.2.1.frozen 5
                  have HS6 := Lib.hid (later_of HA6.out.2.2.2)
                  refine ⟨HS6.out, ?_⟩
                  clear t7
                  refine plan_group [false, false, false, false, false, false, false, false, false, true] [9] 1 (by dsimp only [sel]) (by rfl) rfl (by kernel_rfl) (by kernel_rfl) HS6.out ?_
                  (repeat go_big_quiet_step (fail)); refine wpQuiet_nil ?_
                  refine plan_one [false, false, false, false, false, false, false, false, false, false, true] 10 0 (by dsimp only [sel]) (by rfl) rfl (by kernel_rfl) ?_; intro K1 hK1; go_wp2_with fail
                  obtain ⟨w7, hw7⟩ : ∃ w7, w7 = w6.setCell ⟨bc, 5, none⟩ (.slice Av2 m2 cv2) := ⟨_, rfl⟩
                  rw [← hw7]
                  have hc7 : Chg w6 w7 (fun k => k = bc) := by rw [hw7]; exact Chg.setCell w6 bc 5 _
                  have HK7 := Lib.hid (show Blk w7 bc 24 #[.int .i64 b.base, .int .i64 b.last, .int .i64 b.prod, .int .i64 b.epoch, .int .i64 b.seq, .slice Av2 m2 cv2] by rw [hw7]; exact HA6.out.2.2.1.set 5 _)
                  have HR7 := Lib.hid (HA6.out.1.chg hc7 (fun g hg h => by have h : g = bc := h; omega))
                  have HC7 := Lib.hid (HA6.out.2.1.trans hc7 (fun _ _ h => h))
                  refine ⟨later_of (HA6.out.2.2.2.trans hc7 (fun k _ h => by have h : k = bc := h; omega)), ?_⟩
                  clear hw7 hc7 t8 t9
                  refine wp_plan_end (by kernel_rfl) ?_
                  clear HS HS5 HS6
                  refine hK _ _ ?_
                  go_wp2_with fail
                  go_roundw
                  case rel => exact ⟨j + 1, ks ++ [x], .slice Av2 m2 cv2, by omega, by go_num, HNX.out, HR7.out, HK7.out, HC7.out⟩
                  case measure => simp [intOf]; omega
                · intro K1 hK1; go_wp2_with fail
                  refine ⟨HS.out, ?_⟩
                  refine plan_both [false, true] [false, false, false, false, false, false, false, true] 1 7 4 (by dsimp only [sel]) (by dsimp only [sel]) (by rfl) (by rfl) rfl (by kernel_rfl) ?_ ?_
                  · intro K1 hK1; go_wp2_with fail
                    refine ⟨HS.out, ?_⟩
                    refine plan_one [false, false, false, false, false, false, false, true] 7 3 (by dsimp only [sel]) (by rfl) rfl (by kernel_rfl) ?_; intro K1 hK1; go_wp2_with fail
                    obtain ⟨w5, hw5⟩ : ∃ w5, w5 = wz.alloc (.cells #[.int .i64 x.off, .int .i64 x.time, .bool x.hasKey, .slice Akv x.key.length ckv, .bool x.hasVal, .slice Avv x.val.length cvv] 62) := ⟨_, rfl⟩
                    rw [← hw5]
                    have hb5 : Below wr.heap.size wr w5 := by rw [hw5, HWZ.out]; exact (bdrew (Below.refl wr.heap.size wr) 1).alloc (by simp) _
                    have hat5 : At w5 (some ⟨wz.heap.size, 0, none⟩) (1 * 6) (fun j => ([.int .i64 x.off, .int .i64 x.time, .bool x.hasKey, .slice Akv x.key.length ckv, .bool x.hasVal, .slice Avv x.val.length cvv] : List Value).getD j undef) := by
                      rw [hw5]
                      exact (At.new wz #[.int .i64 x.off, .int .i64 x.time, .bool x.hasKey, .slice Akv x.key.length ckv, .bool x.hasVal, .slice Avv x.val.length cvv] 62 (n := 1 * 6) rfl).congr fun j hj => by match j, hj with | 0, _ => rfl | 1, _ => rfl | 2, _ => rfl | 3, _ => rfl | 4, _ => rfl | 5, _ => rfl
                    have HK5 := Lib.hid ((chg_of (P := fun _ => False) hb5).blk HKC.out id)
                    have t7 : w5.cell? ⟨bc, 5, none⟩ = some (.slice Av m cv) := HK5.out.cell 5 rfl
                    have HB5 := Lib.hid hb5; clear hb5 hw5
                    have HAT5 := Lib.hid hat5; clear hat5
                    have HS5 := Lib.hid (later_of (chg_of (P := fun k => bc ≤ k) HB5.out))
                    clear t6 s0 s1 s2 s3 s4 s5 t5
                    refine ⟨HS5.out, ?_⟩
                    obtain ⟨xs, hown, hcells⟩ := HROW.out
                    have hxl := hown.1
                    have hown5 := own_below hown HB5.out
                    rw [← HM.out] at hown5
                    have HOWN := Lib.hid hown5; clear hown5
                    have hsz5 : w4.heap.size ≤ w5.heap.size := Nat.le_trans hltwr HB5.out.size
                    have happ : ∀ v2 w6, w6.ownsRow w4.heap.size 62 6 v2 (m + 1) (xs ++ cellsOf (1 * 6) (fun j => ([.int .i64 x.off, .int .i64 x.time, .bool x.hasKey, .slice Akv x.key.length ckv, .bool x.hasVal, .slice Avv x.val.length cvv] : List Value).getD j undef)) → w5.grownBy w6 (Value.slice Av m cv).ownBlock →
                        RowW w w4.heap.size w6 v2 (ks ++ [x]) ∧ Chg w4 w6 (fun k => k = bc) ∧ Blk w6 bc 24 #[.int .i64 b.base, .int .i64 b.last, .int .i64 b.prod, .int .i64 b.epoch, .int .i64 b.seq, .slice Av m cv] ∧ Chg wr w6 (fun k => bc ≤ k) := fun v2 w6 h1 h2 => by
                      have hgr : Chg w5 w6 (fun k => w4.heap.size ≤ k) := (Chg.grown h2).mono fun k _ hk => (hown.lt k hk).1
                      refine ⟨RowW.append hcells hxl rfl HRR.out (by rw [← HM.out]; exact h1), (HCH.out.trans (chg_of (P := fun _ => False) HB5.out) (fun _ _ h => h.elim)).trans hgr (fun k hk h => by have h : w4.heap.size ≤ k := h; omega), hgr.blk HK5.out (fun h => by have h : w4.heap.size ≤ bc := h; omega), (chg_of (P := fun k => bc ≤ k) HB5.out).trans hgr (fun k _ h => by have h : w4.heap.size ≤ k := h; omega)⟩
                    have HAPP := Lib.hid happ; clear happ hcells hxl hown
                    refine plan_one [false, false, false, false, false, false, false, false, true] 8 2 (by dsimp only [sel]) (by rfl) rfl (by kernel_rfl) ?_; intro K1 hK1; go_wp2_with (at_builtin; go_loud (refine wpList_app2 _ rfl (.tmp 46) (.tmp 52) 22 rfl w4.heap.size 62 i0 _ 6 80 Try.underlying22 HI.out.1 HI.out.2.1 HI.out.2.2.1 HI.out.2.2.2 rfl (by decide) _ m xs rfl HOWN.out (some ⟨wz.heap.size, 0, none⟩) 1 1 _ rfl HAT5.out (fun j hj => by match j, hj with | 0, _ => rfl | 1, _ => rfl | 2, _ => rfl | 3, _ => rfl | 4, _ => rfl | 5, _ => rfl) (by unfold maxLen; omega) (by omega) hsz5 ?_; intro v2 w6 h1 h2 h3; clear h3; have HA6 := Lib.hid (HAPP.out v2 w6 h1 h2); clear h1 h2))
                    go_simp
                    obtain ⟨Av2, cv2, hv2, -⟩ := HA6.out.1.recsV (HB4.out.trans (HA6.out.2.1.below HB4.out.size fun k hk => by have hk : k = bc := hk; omega))
                    subst hv2
                    obtain ⟨m2, hm2⟩ : ∃ m2, m2 = (ks ++ [x]).length := ⟨_, rfl⟩
                    rw [← hm2] at HA6 ⊢
                    clear hm2
                    have t8 : w6.cell? ⟨bc, 5, none⟩ = some (.slice Av m cv) := HA6.out.2.2.1.cell 5 rfl
                    have t9 : w6.frozen? ⟨bc, 5, none⟩ = false := HA6.out.2.2.1.frozen 5
                    have HS6 := Lib.hid (later_of HA6.out.2.2.2)
                    refine ⟨HS6.out, ?_⟩
                    clear t7
                    refine plan_group [false, false, false, false, false, false, false, false, false, true] [9] 1 (by dsimp only [sel]) (by rfl) rfl (by kernel_rfl) (by kernel_rfl) HS6.out ?_
                    (repeat go_big_quiet_step (fail)); refine wpQuiet_nil ?_
                    refine plan_one [false, false, false, false, false, false, false, false, false, false, true] 10 0 (by dsimp only [sel]) (by rfl) rfl (by kernel_rfl) ?_; intro K1 hK1; go_wp2_with fail
                    obtain ⟨w7, hw7⟩ : ∃ w7, w7 = w6.setCell ⟨bc, 5, none⟩ (.slice Av2 m2 cv2) := ⟨_, rfl⟩
                    rw [← hw7]
                    have hc7 : Chg w6 w7 (fun k => k = bc) := by rw [hw7]; exact Chg.setCell w6 bc 5 _
                    have HK7 := Lib.hid (show Blk w7 bc 24 #[.int .i64 b.base, .int .i64 b.last, .int .i64 b.prod, .int .i64 b.epoch, .int .i64 b.seq, .slice Av2 m2 cv2] by rw [hw7]; exact HA6.out.2.2.1.set 5 _)
                    have HR7 := Lib.hid (HA6.out.1.chg hc7 (fun g hg h => by have h : g = bc := h; omega))
                    have HC7 := Lib.hid (HA6.out.2.1.trans hc7 (fun _ _ h => h))
                    refine ⟨later_of (HA6.out.2.2.2.trans hc7 (fun k _ h => by have h : k = bc := h; omega)), ?_⟩
                    clear hw7 hc7 t8 t9
                    refine wp_plan_end (by kernel_rfl) ?_
                    clear HS HS5 HS6
                    refine hK _ _ ?_
                    go_wp2_with fail
                    go_roundw
                    case rel => exact ⟨j + 1, ks ++ [x], .slice Av2 m2 cv2, by omega, by go_num, HNX.out, HR7.out, HK7.out, HC7.out⟩
                    case measure => simp [intOf]; omega
                  · intro K1 hK1; go_wp2_with fail
                    obtain ⟨w5, hw5⟩ : ∃ w5, w5 = wz.alloc (.cells #[.int .i64 x.off, .int .i64 x.time, .bool x.hasKey, .slice Akv x.key.length ckv, .bool x.hasVal, .slice Avv x.val.length cvv] 62) := ⟨_, rfl⟩
                    rw [← hw5]
                    have hb5 : Below wr.heap.size wr w5 := by rw [hw5, HWZ.out]; exact (bdrew (Below.refl wr.heap.size wr) 1).alloc (by simp) _
                    have hat5 : At w5 (some ⟨wz.heap.size, 0, none⟩) (1 * 6) (fun j => ([.int .i64 x.off, .int .i64 x.time, .bool x.hasKey, .slice Akv x.key.length ckv, .bool x.hasVal, .slice Avv x.val.length cvv] : List Value).getD j undef) := by
                      rw [hw5]
                      exact (At.new wz #[.int .i64 x.off, .int .i64 x.time, .bool x.hasKey, .slice Akv x.key.length ckv, .bool x.hasVal, .slice Avv x.val.length cvv] 62 (n := 1 * 6) rfl).congr fun j hj => by match j, hj with | 0, _ => rfl | 1, _ => rfl | 2, _ => rfl | 3, _ => rfl | 4, _ => rfl | 5, _ => rfl
                    have HK5 := Lib.hid ((chg_of (P := fun _ => False) hb5).blk HKC.out id)
                    have t7 : w5.cell? ⟨bc, 5, none⟩ = some (.slice Av m cv) := HK5.out.cell 5 rfl
                    have HB5 := Lib.hid hb5; clear hb5 hw5
                    have HAT5 := Lib.hid hat5; clear hat5
                    have HS5 := Lib.hid (later_of (chg_of (P := fun k => bc ≤ k) HB5.out))
                    clear t6 s0 s1 s2 s3 s4 s5 t5
                    refine ⟨HS5.out, ?_⟩
                    refine plan_one [false, true] 1 3 (by dsimp only [sel]) (by rfl) rfl (by kernel_rfl) ?_; intro K1 hK1; go_wp2_with fail
                    refine ⟨HS5.out, ?_⟩
                    obtain ⟨xs, hown, hcells⟩ := HROW.out
                    have hxl := hown.1
                    have hown5 := own_below hown HB5.out
                    rw [← HM.out] at hown5
                    have HOWN := Lib.hid hown5; clear hown5
                    have hsz5 : w4.heap.size ≤ w5.heap.size := Nat.le_trans hltwr HB5.out.size
                    have happ : ∀ v2 w6, w6.ownsRow w4.heap.size 62 6 v2 (m + 1) (xs ++ cellsOf (1 * 6) (fun j => ([.int .i64 x.off, .int .i64 x.time, .bool x.hasKey, .slice Akv x.key.length ckv, .bool x.hasVal, .slice Avv x.val.length cvv] : List Value).getD j undef)) → w5.grownBy w6 (Value.slice Av m cv).ownBlock →
                        RowW w w4.heap.size w6 v2 (ks ++ [x]) ∧ Chg w4 w6 (fun k => k = bc) ∧ Blk w6 bc 24 #[.int .i64 b.base, .int .i64 b.last, .int .i64 b.prod, .int .i64 b.epoch, .int .i64 b.seq, .slice Av m cv] ∧ Chg wr w6 (fun k => bc ≤ k) := fun v2 w6 h1 h2 => by
                      have hgr : Chg w5 w6 (fun k => w4.heap.size ≤ k) := (Chg.grown h2).mono fun k _ hk => (hown.lt k hk).1
                      refine ⟨RowW.append hcells hxl rfl HRR.out (by rw [← HM.out]; exact h1), (HCH.out.trans (chg_of (P := fun _ => False) HB5.out) (fun _ _ h => h.elim)).trans hgr (fun k hk h => by have h : w4.heap.size ≤ k := h; omega), hgr.blk HK5.out (fun h => by have h : w4.heap.size ≤ bc := h; omega), (chg_of (P := fun k => bc ≤ k) HB5.out).trans hgr (fun k _ h => by have h : w4.heap.size ≤ k := h; omega)⟩
                    have HAPP := Lib.hid happ; clear happ hcells hxl hown
                    refine plan_one [false, false, false, false, false, false, false, false, true] 8 2 (by dsimp only [sel]) (by rfl) rfl (by kernel_rfl) ?_; intro K1 hK1; go_wp2_with (at_builtin; go_loud (refine wpList_app2 _ rfl (.tmp 46) (.tmp 52) 22 rfl w4.heap.size 62 i0 _ 6 80 Try.underlying22 HI.out.1 HI.out.2.1 HI.out.2.2.1 HI.out.2.2.2 rfl (by decide) _ m xs rfl HOWN.out (some ⟨wz.heap.size, 0, none⟩) 1 1 _ rfl HAT5.out (fun j hj => by match j, hj with | 0, _ => rfl | 1, _ => rfl | 2, _ => rfl | 3, _ => rfl | 4, _ => rfl | 5, _ => rfl) (by unfold maxLen; omega) (by omega) hsz5 ?_; intro v2 w6 h1 h2 h3; clear h3; have HA6 := Lib.hid (HAPP.out v2 w6 h1 h2); clear h1 h2))
                    go_simp
                    obtain ⟨Av2, cv2, hv2, -⟩ := HA6.out.1.recsV (HB4.out.trans (HA6.out.2.1.below HB4.out.size fun k hk => by have hk : k = bc := hk; omega))
                    subst hv2
                    obtain ⟨m2, hm2⟩ : ∃ m2, m2 = (ks ++ [x]).length := ⟨_, rfl⟩
                    rw [← hm2] at HA6 ⊢
                    clear hm2
                    have t8 : w6.cell? ⟨bc, 5, none⟩ = some (.slice Av m cv) := HA6.out.2.2.1.cell 5 rfl
                    have t9 : w6.frozen? ⟨bc, 5, none⟩ = false := HA6.out.2.2.1.frozen 5
                    have HS6 := Lib.hid (later_of HA6.out.2.2.2)
                    refine ⟨HS6.out, ?_⟩
                    clear t7
                    refine plan_group [false, false, false, false, false, false, false, false, false, true] [9] 1 (by dsimp only [sel]) (by rfl) rfl (by kernel_rfl) (by kernel_rfl) HS6.out ?_
                    (repeat go_big_quiet_step (fail)); refine wpQuiet_nil ?_
                    refine plan_one [false, false, false, false, false, false, false, false, false, false, true] 10 0 (by dsimp only [sel]) (by rfl) rfl (by kernel_rfl) ?_; intro K1 hK1; go_wp2_with fail
                    obtain ⟨w7, hw7⟩ : ∃ w7, w7 = w6.setCell ⟨bc, 5, none⟩ (.slice Av2 m2 cv2) := ⟨_, rfl⟩
                    rw [← hw7]
                    have hc7 : Chg w6 w7 (fun k => k = bc) := by rw [hw7]; exact Chg.setCell w6 bc 5 _
                    have HK7 := Lib.hid (show Blk w7 bc 24 #[.int .i64 b.base, .int .i64 b.last, .int .i64 b.prod, .int .i64 b.epoch, .int .i64 b.seq, .slice Av2 m2 cv2] by rw [hw7]; exact HA6.out.2.2.1.set 5 _)
                    have HR7 := Lib.hid (HA6.out.1.chg hc7 (fun g hg h => by have h : g = bc := h; omega))
                    have HC7 := Lib.hid (HA6.out.2.1.trans hc7 (fun _ _ h => h))
                    refine ⟨later_of (HA6.out.2.2.2.trans hc7 (fun k _ h => by have h : k = bc := h; omega)), ?_⟩
                    clear hw7 hc7 t8 t9
                    refine wp_plan_end (by kernel_rfl) ?_
                    clear HS HS5 HS6
                    refine hK _ _ ?_
                    go_wp2_with fail
                    go_roundw
                    case rel => exact ⟨j + 1, ks ++ [x], .slice Av2 m2 cv2, by omega, by go_num, HNX.out, HR7.out, HK7.out, HC7.out⟩
                    case measure => simp [intOf]; omega
          · go_wp2_with fail
            go_roundw
            case rel => exact ⟨j + 1, ks, .slice Av m cv, by omega, by go_num, HSKIP.out hlt, HROW.out, HKC.out, HCH.out⟩
            case measure => simp [intOf]; omega
        · obtain rfl : j = n := by omega
          have hsubn : ks.Sublist b.recs := by
            have h := HSUB.out
            rw [HN.out, List.take_length] at h
            exact h
          have hg := gap.ok HCW.out.1 HCW.out.2 hsubn
          have hbs := Bat.check_ok HCW.out.1
          have hZ1 : Z = b.size := by rw [HEW.out.2.2]; unfold Bat.sizeof; rw [if_pos HCW.out.1]
          have hZ2 : 0 ≤ Z ∧ Z ≤ 65536 := by
            have := (Bat.sum_le (Bat.first b.recs) b.base b.recs hbs.2.2.1).1
            rw [hZ1]
            exact ⟨by unfold Bat.size; omega, hbs.2.2.2⟩
          obtain ⟨Y, hY⟩ : ∃ Y, Y = (b.keep ks).sizeof := ⟨_, rfl⟩
          have hY1 : Y = (b.keep ks).size := by rw [hY]; unfold Bat.sizeof; rw [if_pos hg.1]
          have hYZ : Y ≤ Z + 9 * (j : Int) := by
            rw [hY1, hZ1, HN.out]
            exact hg.2
          have hn100 := HN100.out
          have henc := fun wx (h : Below wr.heap.size wr wx) => bat.encode_any (b.keep ks) Av cv wx (by rw [show (b.keep ks).recs.length = m from HM.out.symm]; exact HRV.out.below h (Nat.le_refl _)) hg.1
          have hszc := fun wx (h : Below wr.heap.size wr wx) => bat.sizeof_any (b.keep ks) Av cv wx (by rw [show (b.keep ks).recs.length = m from HM.out.symm]; exact HRV.out.below h (Nat.le_refl _))
          have hbyt := Bat.bytes_byte hg.1 (RecsV.byte (rs := (b.keep ks).recs) HRV.out)
          have hdec := dec.decode_put hg.1
          have hbl := (Bat.summed_le hg.1).2.1
          rw [← hY] at hszc
          unfold Bat.hval at henc hszc
          rw [show (b.keep ks).recs.length = m from HM.out.symm] at henc hszc
          have henc2 : ∀ wx, Below wr.heap.size wr wx → Calls Try.prog 13 #[.agg #[.int .i64 b.base, .int .i64 b.last, .int .i64 b.prod, .int .i64 b.epoch, .int .i64 b.seq, .slice Av m cv]] wx fun e w' => (∃ v, e = .returned (.tuple #[v, .int .i64 0]) ∧ w'.ownsRow wx.heap.size 5 1 v (b.keep ks).bytes.length (u8s (b.keep ks).bytes)) ∧ Below wx.heap.size wx w' := henc
          have hszc2 : ∀ wx, Below wr.heap.size wr wx → Calls Try.prog 19 #[.agg #[.int .i64 b.base, .int .i64 b.last, .int .i64 b.prod, .int .i64 b.epoch, .int .i64 b.seq, .slice Av m cv]] wx fun e w' => e = .returned (.int .i64 Y) ∧ Below wx.heap.size wx w' := hszc
          obtain ⟨L, hL⟩ : ∃ L, L = (b.keep ks).bytes := ⟨_, rfl⟩
          rw [← hL] at henc2 hbyt hdec hbl
          have HDEC := Lib.hid hdec; clear hdec
          have HENC := Lib.hid henc2; clear henc henc2
          have HSZC := Lib.hid hszc2; clear hszc hszc2
          have HBYT := Lib.hid hbyt; clear hbyt
          clear hg hbs hZ1 hY hY1 hL hsubn
          have hbs0 := HBWR.out
          have HBB := Lib.hid hbs0; clear hbs0
          have d0 : wr.cell? ⟨bc, 0, none⟩ = some (.int .i64 b.base) := HKC.out.cell 0 rfl
          have d1 : wr.cell? ⟨bc, 1, none⟩ = some (.int .i64 b.last) := HKC.out.cell 1 rfl
          have d2 : wr.cell? ⟨bc, 2, none⟩ = some (.int .i64 b.prod) := HKC.out.cell 2 rfl
          have d3 : wr.cell? ⟨bc, 3, none⟩ = some (.int .i64 b.epoch) := HKC.out.cell 3 rfl
          have d4 : wr.cell? ⟨bc, 4, none⟩ = some (.int .i64 b.seq) := HKC.out.cell 4 rfl
          have d5 : wr.cell? ⟨bc, 5, none⟩ = some (.slice Av m cv) := HKC.out.cell 5 rfl
          go_wp2_with fail
          refine (HENC.out wr (Below.refl _ _)).mono ?_
          rintro e w5 ⟨⟨v5, rfl, ho5⟩, hb5⟩
          obtain ⟨Ap, cp, rfl, hcp, -, hatp⟩ := own_bytes ho5
          have hcp2 : cp ≤ maxLen := own_cap ho5
          have hdc := fun wx (h : Below w5.heap.size w5 wx) => bat.decode_any Ap cp L wx (hatp.below h (Nat.le_refl _)) HBYT.out hcp hcp2
          have HDC := Lib.hid hdc; clear hdc ho5 hatp
          have HB5 := Lib.hid hb5; clear hb5 HENC
          generalize L.length = nb at *
          clear d0 d1 d2 d3 d4 d5
          go_wp2_with fail
          refine (HDC.out w5 (Below.refl _ _)).mono ?_
          rintro e w6 ⟨hres, hb6⟩
          obtain ⟨A', c', hrvd, rfl⟩ : ∃ A' c', RecsV w6 (.slice A' m c') ks ∧ e = .returned (.tuple #[.agg #[.int .i64 b.base, .int .i64 b.last, .int .i64 b.prod, .int .i64 b.epoch, .int .i64 b.seq, .slice A' m c'], .int .i64 0]) := by
            rcases hres with ⟨h1, -⟩ | ⟨b', A', c', h1, h2, h3⟩
            · rw [HDEC.out] at h1; cases h1
            · rw [HDEC.out] at h1
              obtain rfl : b.keep ks = b' := Option.some.inj h1
              rw [show (b.keep ks).recs.length = m from HM.out.symm] at h2
              unfold Bat.hval at h3
              rw [show (b.keep ks).recs.length = m from HM.out.symm] at h3
              exact ⟨A', c', h2, h3⟩
          clear hres HDC HDEC
          have HB6 := Lib.hid (HB5.out.trans (hb6.mono HB5.out.size)); clear hb6
          have HRVD := Lib.hid hrvd; clear hrvd
          go_upto_region 12 with fail
          obtain ⟨w7, hw7⟩ : ∃ w7, w7 = w6.alloc (.cells #[.int .i64 b.base, .int .i64 b.last, .int .i64 b.prod, .int .i64 b.epoch, .int .i64 b.seq, .slice A' m c'] 24) := ⟨_, rfl⟩
          rw [← hw7]
          have hb67 : Below w6.heap.size w6 w7 := by rw [hw7]; exact (Below.refl _ w6).alloc (Nat.le_refl _) _
          have hkd7 : Blk w7 w6.heap.size 24 #[.int .i64 b.base, .int .i64 b.last, .int .i64 b.prod, .int .i64 b.epoch, .int .i64 b.seq, .slice A' m c'] := by rw [hw7]; exact Blk.new _ _ _
          clear hw7
          have HB7 := Lib.hid (HB6.out.trans (hb67.mono HB6.out.size))
          have HKD7 := Lib.hid hkd7; clear hkd7
          have HKC7 := Lib.hid ((chg_of (P := fun _ => False) HB7.out).blk HKC.out id)
          have HKR7 := Lib.hid ((chg_of (P := fun _ => False) HB7.out).blk HKR.out id)
          have HRVD7 := Lib.hid (HRVD.out.below hb67 (Nat.le_refl _)); clear hb67
          have hsam := fun wx (h : Below w7.heap.size w7 wx) => bat.same_any (b.keep ks) (b.keep ks) Av cv A' c' wx (by rw [show (b.keep ks).recs.length = m from HM.out.symm]; exact (HRV.out.below HB7.out (Nat.le_refl _)).below h (Nat.le_refl _)) (by rw [show (b.keep ks).recs.length = m from HM.out.symm]; exact HRVD7.out.below h (Nat.le_refl _))
          rw [Bat.same_refl] at hsam
          unfold Bat.hval at hsam
          rw [show (b.keep ks).recs.length = m from HM.out.symm] at hsam
          have hsam2 : ∀ wx, Below w7.heap.size w7 wx → Calls Try.prog 20 #[.agg #[.int .i64 b.base, .int .i64 b.last, .int .i64 b.prod, .int .i64 b.epoch, .int .i64 b.seq, .slice Av m cv], .agg #[.int .i64 b.base, .int .i64 b.last, .int .i64 b.prod, .int .i64 b.epoch, .int .i64 b.seq, .slice A' m c']] wx fun e w' => e = .returned (.bool true) ∧ Below wx.heap.size wx w' := hsam
          have HSAM := Lib.hid hsam2; clear hsam hsam2
          obtain ⟨bd, hbd⟩ : ∃ bd, bd = w6.heap.size := ⟨_, rfl⟩
          rw [← hbd] at HKD7 ⊢
          clear hbd
          have u0 : ∀ x : Later w7 (fun _ => False), x.1.cell? ⟨w.heap.size, 0, none⟩ = some (.int .i64 b.base) := fun x => (x.2.blk HKR7.out id).cell 0 rfl
          have u1 : ∀ x : Later w7 (fun _ => False), x.1.cell? ⟨w.heap.size, 1, none⟩ = some (.int .i64 b.last) := fun x => (x.2.blk HKR7.out id).cell 1 rfl
          have u2 : ∀ x : Later w7 (fun _ => False), x.1.cell? ⟨w.heap.size, 2, none⟩ = some (.int .i64 b.prod) := fun x => (x.2.blk HKR7.out id).cell 2 rfl
          have u3 : ∀ x : Later w7 (fun _ => False), x.1.cell? ⟨w.heap.size, 3, none⟩ = some (.int .i64 b.epoch) := fun x => (x.2.blk HKR7.out id).cell 3 rfl
          have u4 : ∀ x : Later w7 (fun _ => False), x.1.cell? ⟨w.heap.size, 4, none⟩ = some (.int .i64 b.seq) := fun x => (x.2.blk HKR7.out id).cell 4 rfl
          have u5 : ∀ x : Later w7 (fun _ => False), x.1.cell? ⟨w.heap.size, 5, none⟩ = some (.slice A j c) := fun x => (x.2.blk HKR7.out id).cell 5 rfl
          have q0 : ∀ x : Later w7 (fun _ => False), x.1.cell? ⟨bc, 0, none⟩ = some (.int .i64 b.base) := fun x => (x.2.blk HKC7.out id).cell 0 rfl
          have q1 : ∀ x : Later w7 (fun _ => False), x.1.cell? ⟨bc, 1, none⟩ = some (.int .i64 b.last) := fun x => (x.2.blk HKC7.out id).cell 1 rfl
          have q2 : ∀ x : Later w7 (fun _ => False), x.1.cell? ⟨bc, 2, none⟩ = some (.int .i64 b.prod) := fun x => (x.2.blk HKC7.out id).cell 2 rfl
          have q3 : ∀ x : Later w7 (fun _ => False), x.1.cell? ⟨bc, 3, none⟩ = some (.int .i64 b.epoch) := fun x => (x.2.blk HKC7.out id).cell 3 rfl
          have q4 : ∀ x : Later w7 (fun _ => False), x.1.cell? ⟨bc, 4, none⟩ = some (.int .i64 b.seq) := fun x => (x.2.blk HKC7.out id).cell 4 rfl
          have q5 : ∀ x : Later w7 (fun _ => False), x.1.cell? ⟨bc, 5, none⟩ = some (.slice Av m cv) := fun x => (x.2.blk HKC7.out id).cell 5 rfl
          have r0 : ∀ x : Later w7 (fun _ => False), x.1.cell? ⟨bd, 0, none⟩ = some (.int .i64 b.base) := fun x => (x.2.blk HKD7.out id).cell 0 rfl
          have r1 : ∀ x : Later w7 (fun _ => False), x.1.cell? ⟨bd, 1, none⟩ = some (.int .i64 b.last) := fun x => (x.2.blk HKD7.out id).cell 1 rfl
          have r2 : ∀ x : Later w7 (fun _ => False), x.1.cell? ⟨bd, 2, none⟩ = some (.int .i64 b.prod) := fun x => (x.2.blk HKD7.out id).cell 2 rfl
          have r3 : ∀ x : Later w7 (fun _ => False), x.1.cell? ⟨bd, 3, none⟩ = some (.int .i64 b.epoch) := fun x => (x.2.blk HKD7.out id).cell 3 rfl
          have r4 : ∀ x : Later w7 (fun _ => False), x.1.cell? ⟨bd, 4, none⟩ = some (.int .i64 b.seq) := fun x => (x.2.blk HKD7.out id).cell 4 rfl
          have r5 : ∀ x : Later w7 (fun _ => False), x.1.cell? ⟨bd, 5, none⟩ = some (.slice A' m c') := fun x => (x.2.blk HKD7.out id).cell 5 rfl
          have hS0 : later w7 (fun _ => False) w7.drew := later_of ((Chg.refl _ _).drew)
          refine wp_plan (S := fun w0 => ∃ x : Later w7 (fun _ => False), w0 = x.1) (by kernel_rfl) hS0 ?_
          intro hS K hK
          have HS := Lib.hid hS; clear hS hS0
          refine plan_group [true, true, true, true, true, true, true, true] [0, 1, 2, 3, 4, 5, 6, 7] 42 (by dsimp only [sel]) (by rfl) rfl (by kernel_rfl) (by kernel_rfl) HS.out ?_
          (repeat go_big_quiet_step (fail)); refine wpQuiet_nil ?_
          have g0 : w7.drew.cell? ⟨bd, 0, none⟩ = some (.int .i64 b.base) := r0 ⟨w7.drew, ((Chg.refl w7 (fun _ => False)).drew)⟩
          have g1 : w7.drew.cell? ⟨bd, 1, none⟩ = some (.int .i64 b.last) := r1 ⟨w7.drew, ((Chg.refl w7 (fun _ => False)).drew)⟩
          have g2 : w7.drew.cell? ⟨bd, 2, none⟩ = some (.int .i64 b.prod) := r2 ⟨w7.drew, ((Chg.refl w7 (fun _ => False)).drew)⟩
          have g3 : w7.drew.cell? ⟨bd, 3, none⟩ = some (.int .i64 b.epoch) := r3 ⟨w7.drew, ((Chg.refl w7 (fun _ => False)).drew)⟩
          have g4 : w7.drew.cell? ⟨bd, 4, none⟩ = some (.int .i64 b.seq) := r4 ⟨w7.drew, ((Chg.refl w7 (fun _ => False)).drew)⟩
          have g5 : w7.drew.cell? ⟨bd, 5, none⟩ = some (.slice A' m c') := r5 ⟨w7.drew, ((Chg.refl w7 (fun _ => False)).drew)⟩
          refine plan_one [false, false, false, false, false, false, false, false, true] 8 41 (by dsimp only [sel]) (by rfl) rfl (by kernel_rfl) ?_; intro K1 hK1; go_wp2_with fail
          refine ⟨HS.out, ?_⟩
          clear g0 g1 g2 g3 g4 g5
          refine plan_one [false, false, false, false, false, false, false, false, false, true] 9 40 (by dsimp only [sel]) (by rfl) rfl (by kernel_rfl) ?_; intro K1 hK1; go_wp2_with fail
          refine (HSAM.out _ (bdrew (Below.refl w7.heap.size w7) 1)).mono ?_
          rintro e z1 ⟨rfl, hz⟩
          have HZ1 := Lib.hid (show Below w7.heap.size w7 z1 from (bdrew (Below.refl w7.heap.size w7) 1).trans (hz.mono (bdrew (Below.refl w7.heap.size w7) 1).size)); clear hz
          go_wp2_with fail
          refine ⟨(later_of (chg_of HZ1.out)), ?_⟩
          refine plan_group [false, false, false, false, false, false, false, false, false, false, true, true, true, true, true] [10, 11, 12, 13, 14] 35 (by dsimp only [sel]) (by rfl) rfl (by kernel_rfl) (by kernel_rfl) (later_of (chg_of HZ1.out)) ?_
          (repeat go_big_quiet_step (fail)); refine wpQuiet_nil ?_
          have g0 : z1.cell? ⟨w.heap.size, 0, none⟩ = some (.int .i64 b.base) := u0 ⟨z1, chg_of HZ1.out⟩
          refine plan_one [false, false, false, false, false, false, false, false, false, false, false, false, false, false, false, true] 15 34 (by dsimp only [sel]) (by rfl) rfl (by kernel_rfl) ?_; intro K1 hK1; go_wp2_with fail
          refine ⟨(later_of (chg_of HZ1.out)), ?_⟩
          clear g0
          refine plan_group [false, false, false, false, false, false, false, false, false, false, false, false, false, false, false, false, true, true, true, true, true, true] [16, 17, 18, 19, 20, 21] 28 (by dsimp only [sel]) (by rfl) rfl (by kernel_rfl) (by kernel_rfl) (later_of (chg_of HZ1.out)) ?_
          (repeat go_big_quiet_step (fail)); refine wpQuiet_nil ?_
          have g1 : z1.cell? ⟨w.heap.size, 1, none⟩ = some (.int .i64 b.last) := u1 ⟨z1, chg_of HZ1.out⟩
          refine plan_one [false, false, false, false, false, false, false, false, false, false, false, false, false, false, false, false, false, false, false, false, false, false, true] 22 27 (by dsimp only [sel]) (by rfl) rfl (by kernel_rfl) ?_; intro K1 hK1; go_wp2_with fail
          refine ⟨(later_of (chg_of HZ1.out)), ?_⟩
          clear g1
          refine plan_group [false, false, false, false, false, false, false, false, false, false, false, false, false, false, false, false, false, false, false, false, false, false, false, true, true, true, true, true, true, true] [23, 24, 25, 26, 27, 28, 29] 20 (by dsimp only [sel]) (by rfl) rfl (by kernel_rfl) (by kernel_rfl) (later_of (chg_of HZ1.out)) ?_
          (repeat go_big_quiet_step (fail)); refine wpQuiet_nil ?_
          have g5 : z1.cell? ⟨bc, 5, none⟩ = some (.slice Av m cv) := q5 ⟨z1, chg_of HZ1.out⟩
          refine plan_one [false, false, false, false, false, false, false, false, false, false, false, false, false, false, false, false, false, false, false, false, false, false, false, false, false, false, false, false, false, false, true] 30 19 (by dsimp only [sel]) (by rfl) rfl (by kernel_rfl) ?_; intro K1 hK1; go_wp2_with fail
          refine ⟨(later_of (chg_of HZ1.out)), ?_⟩
          clear g5
          refine plan_group [false, false, false, false, false, false, false, false, false, false, false, false, false, false, false, false, false, false, false, false, false, false, false, false, false, false, false, false, false, false, false, true, true, true, true, true, false, true, false, true, true, true, true] [31, 32, 33, 34, 35, 37, 39, 40, 41, 42] 9 (by dsimp only [sel]) (by rfl) rfl (by kernel_rfl) (by kernel_rfl) (later_of (chg_of HZ1.out)) ?_
          (repeat go_big_quiet_step (fail)); refine wpQuiet_nil ?_
          refine plan_one [false, false, false, false, false, false, false, false, false, false, false, false, false, false, false, false, false, false, false, false, false, false, false, false, false, false, false, false, false, false, false, false, false, false, false, false, true] 36 8 (by dsimp only [sel]) (by rfl) rfl (by kernel_rfl) ?_; intro K1 hK1; go_wp2_with fail
          refine (HSZC.out _ (HB7.out.trans (HZ1.out.mono HB7.out.size))).mono ?_
          rintro e z2 ⟨rfl, hz⟩
          have HZ2 := Lib.hid (show Below w7.heap.size w7 z2 from HZ1.out.trans (hz.mono HZ1.out.size)); clear hz
          go_wp2_with fail
          refine ⟨(later_of (chg_of HZ2.out)), ?_⟩
          refine plan_one [false, false, false, false, false, false, false, false, false, false, false, false, false, false, false, false, false, false, false, false, false, false, false, false, false, false, false, false, false, false, false, false, false, false, false, false, false, false, true] 38 7 (by dsimp only [sel]) (by rfl) rfl (by kernel_rfl) ?_; intro K1 hK1; go_wp2_with fail
          refine (HSZB.out _ (HBB.out.trans ((HB7.out.trans (HZ2.out.mono HB7.out.size)).mono HBB.out.size))).mono ?_
          rintro e z3 ⟨rfl, hz⟩
          have HZ3 := Lib.hid (show Below w7.heap.size w7 z3 from HZ2.out.trans (hz.mono HZ2.out.size)); clear hz
          go_wp2_with fail
          refine ⟨(later_of (chg_of HZ3.out)), ?_⟩
          refine plan_group [false, false, false, false, false, false, false, false, false, false, false, false, false, false, false, false, false, false, false, false, false, false, false, false, false, false, false, false, false, false, false, false, false, false, false, false, false, false, false, false, false, false, false, true, true, true, true] [43, 44, 45, 46] 3 (by dsimp only [sel]) (by rfl) rfl (by kernel_rfl) (by kernel_rfl) (later_of (chg_of HZ3.out)) ?_
          (repeat go_big_quiet_step (fail)); refine wpQuiet_nil ?_
          refine plan_one [false, false, false, false, false, false, false, false, false, false, false, false, false, false, false, false, false, false, false, false, false, false, false, false, false, false, false, false, false, false, false, false, false, false, false, false, false, false, false, false, false, false, false, false, false, false, false, true] 47 2 (by dsimp only [sel]) (by rfl) rfl (by kernel_rfl) ?_; intro K1 hK1; go_wp2_with fail
          refine (HGO.out _).mono ?_
          rintro e z4 ⟨rfl, hz⟩
          have HZ4 := Lib.hid (show Below w7.heap.size w7 z4 from HZ3.out.trans (hz.mono HZ3.out.size)); clear hz
          go_wp2_with fail
          refine ⟨(later_of (chg_of HZ4.out)), ?_⟩
          refine plan_group [false, false, false, false, false, false, false, false, false, false, false, false, false, false, false, false, false, false, false, false, false, false, false, false, false, false, false, false, false, false, false, false, false, false, false, false, false, false, false, false, false, false, false, false, false, false, false, false, true, true] [48, 49] 0 (by dsimp only [sel]) (by rfl) rfl (by kernel_rfl) (by kernel_rfl) (later_of (chg_of HZ4.out)) ?_
          (repeat go_big_quiet_step (fail)); refine wpQuiet_nil ?_
          refine wp_plan_end (by kernel_rfl) ?_
          refine hK _ _ ?_
          clear HS
          go_wp2
          go_ret
          exact ⟨rfl, HBB.out.trans ((HB7.out.trans (HZ4.out.mono HB7.out.size)).mono HBB.out.size)⟩
    · have hd : (E != 0) = true := by simpa using hE0
      clear hE0
      go_wp2_with fail
      refine (HGO.out w3).mono ?_
      rintro e w4 ⟨rfl, hb4⟩
      have HL4 := Lib.hid (HB3.out.trans (hb4.mono HB3.out.size)); clear hb4
      go_wp2
      go_ret
      exact ⟨rfl, HL4.out⟩
end Go.Proofs.Ytndingohckcmdaa

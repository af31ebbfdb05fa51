/- What keymap.Build leaves, if offsets rise. No walk. -/
import Derived.Test.YtnlfdhoabbbheaaKbA
import Derived.Test.YtnlfdhoabbbheaaKeyG
import Derived.Test.YtnlfdhoabbbheaaRcR
namespace Go.Proofs.Ytnlfdhoabbbheaa
open Go.RowKit

/-- Keys, without a limit. -/
def kc.step (s : Nat × (ByteArray → Option Int)) (r : Rec) : Nat × (ByteArray → Option Int) := (if (s.2 (strOf r.key)).isSome then s.1 else s.1 + 1, kmax s.2 (strOf r.key) r.off)
def kc.free (s : Nat × (ByteArray → Option Int)) (rs : List Rec) : Nat × (ByteArray → Option Int) := rs.foldl kc.step s
theorem kc.put_eq {N : Nat} {M : Int} {g : ByteArray → Option Int} {s : ByteArray} {n : Int} (h : (g s).isSome = true ∨ (N : Int) < M) : key.put N M g s n = kmax g s n := by
  rcases h with h | h
  · unfold key.put kmax
    cases hg : g s with
    | none => rw [hg] at h; cases h
    | some m => rfl
  · exact key.put_max N M g s n h
theorem kc.kmax_some (g : ByteArray → Option Int) (s u : ByteArray) (n : Int) : (kmax g s n u).isSome = (decide (u = s) || (g u).isSome) := by
  rw [kmax_at]
  by_cases h : u = s
  · rw [if_pos h, decide_eq_true h]; rfl
  · rw [if_neg h, decide_eq_false h]; rfl
theorem kc.upd_some (h : ByteArray → Option Int) (s u : ByteArray) (n : Int) : (upd h s n u).isSome = (decide (u = s) || (h u).isSome) := by
  unfold upd
  by_cases e : u = s
  · rw [if_pos e, decide_eq_true e]; rfl
  · rw [if_neg e, decide_eq_false e]; rfl
theorem kc.room {f M : Int} {N : Nat} {g : ByteArray → Option Int} : ∀ (rs : List Rec) (F : Nat) (h : ByteArray → Option Int) (N' : Nat) (g' : ByteArray → Option Int), kb.scan f M N g F h rs = true → N' = N + F → (∀ s, (g' s).isSome = ((g s).isSome || (h s).isSome)) →
    kb.offers f M N' g' rs = kc.free (N', g') (rs.filter (kb.use f))
  | [], _, _, _, _, _, _, _ => rfl
  | r :: rs, F, h, N', g', hs, hN, hg => by
    unfold kb.scan at hs
    unfold kb.offers
    by_cases hu : kb.use f r = true
    · rw [if_neg (by rw [hu]; simp)] at hs
      rw [if_pos hu, List.filter_cons_of_pos hu]
      show _ = kc.free (kc.step (N', g') r) (rs.filter (kb.use f))
      by_cases hgs : (g (strOf r.key)).isSome = true
      · rw [if_pos hgs] at hs
        by_cases hov : M < (N : Int) + (F : Int)
        · rw [if_pos hov] at hs; cases hs
        · rw [if_neg hov] at hs
          have hg' : (g' (strOf r.key)).isSome = true := by rw [hg, hgs]; rfl
          have e1 : key.cnt N' M g' (strOf r.key) = N' := by unfold key.cnt; rw [if_pos hg']
          have e2 : kc.step (N', g') r = (N', kmax g' (strOf r.key) r.off) := by unfold kc.step; rw [if_pos hg']
          rw [e1, kc.put_eq (.inl hg'), e2]
          refine kc.room rs F h N' _ hs hN fun s => ?_
          rw [kc.kmax_some, hg]
          by_cases e : s = strOf r.key
          · rw [e, hgs]; simp
          · rw [decide_eq_false e]; rfl
      · rw [if_neg hgs] at hs
        have hgf : (g (strOf r.key)).isSome = false := by simpa using hgs
        by_cases hov : M < (N : Int) + ((kb.more F h (strOf r.key) : Nat) : Int)
        · rw [if_pos hov] at hs; cases hs
        · rw [if_neg hov] at hs
          by_cases hh : (h (strOf r.key)).isSome = true
          · have e0 : kb.more F h (strOf r.key) = F := by unfold kb.more; rw [if_pos hh]
            rw [e0] at hs
            have hg' : (g' (strOf r.key)).isSome = true := by rw [hg, hgf, hh]; rfl
            have e1 : key.cnt N' M g' (strOf r.key) = N' := by unfold key.cnt; rw [if_pos hg']
            have e2 : kc.step (N', g') r = (N', kmax g' (strOf r.key) r.off) := by unfold kc.step; rw [if_pos hg']
            rw [e1, kc.put_eq (.inl hg'), e2]
            refine kc.room rs F _ N' _ hs hN fun s => ?_
            rw [kc.kmax_some, hg, kc.upd_some]
            by_cases e : s = strOf r.key
            · rw [e, decide_eq_true rfl]; simp
            · rw [decide_eq_false e]; rfl
          · have hhf : (h (strOf r.key)).isSome = false := by simpa using hh
            have e0 : kb.more F h (strOf r.key) = F + 1 := by unfold kb.more; rw [if_neg hh]
            rw [e0] at hs hov
            have hg' : (g' (strOf r.key)).isSome = false := by rw [hg, hgf, hhf]; rfl
            have hlt : (N' : Int) < M := by omega
            have e1 : key.cnt N' M g' (strOf r.key) = N' + 1 := by unfold key.cnt; rw [if_neg (by rw [hg']; simp), if_pos hlt]
            have e2 : kc.step (N', g') r = (N' + 1, kmax g' (strOf r.key) r.off) := by unfold kc.step; rw [if_neg (by rw [hg']; simp)]
            rw [e1, kc.put_eq (.inr hlt), e2]
            refine kc.room rs (F + 1) _ (N' + 1) _ hs (by omega) fun s => ?_
            rw [kc.kmax_some, hg, kc.upd_some]
            by_cases e : s = strOf r.key
            · rw [e, decide_eq_true rfl]; simp
            · rw [decide_eq_false e]; rfl
    · have huf : kb.use f r = false := by simpa using hu
      rw [if_pos huf] at hs
      rw [if_neg hu, List.filter_cons_of_neg hu]
      exact kc.room rs F h N' g' hs hN hg
/-- What batches leave. -/
def kc.Res (f : Int) (N : Nat) (g : ByteArray → Option Int) (up : Int) (bs : List Bat) (R : Nat × (ByteArray → Option Int) × Int) : Prop :=
  ∃ J, J ≤ bs.length ∧ (R.1, R.2.1) = kc.free (N, g) ((rc.flat (bs.take J)).filter (kb.use f)) ∧
    ((J = bs.length ∧ (bs = [] → R.2.2 = up) ∧ ∀ b, bs.getLast? = some b → R.2.2 = max (b.last + 1) f) ∨ ∃ b, bs[J]? = some b ∧ b.recs ≠ [] ∧ R.2.2 = max b.base f)
theorem kc.go {f M : Int} : ∀ (bs : List Bat) (N : Nat) (g : ByteArray → Option Int) (up : Int), (N : Int) ≤ M → kc.Res f N g up bs (kb.go f M N g up bs) ∧ (((kb.go f M N g up bs).1 : Nat) : Int) ≤ M
  | [], N, g, up, h => ⟨⟨0, Nat.le_refl _, rfl, .inl ⟨rfl, fun _ => rfl, fun b hb => by cases hb⟩⟩, h⟩
  | b :: bs, N, g, up, h => by
    unfold kb.go
    by_cases hs : kb.scan f M N g 0 (fun _ => none) b.recs = true
    · rw [if_pos hs]
      have hr := kc.room b.recs 0 (fun _ => none) N g hs rfl fun s => by simp
      have hle := kb.offers_le (f := f) b.recs N g h
      obtain ⟨⟨J, h1, h2, h3⟩, h4⟩ := kc.go bs (kb.offers f M N g b.recs).1 (kb.offers f M N g b.recs).2 (max (b.last + 1) f) hle
      refine ⟨⟨J + 1, by simpa using h1, ?_, ?_⟩, h4⟩
      · rw [h2]
        have e : (rc.flat ((b :: bs).take (J + 1))).filter (kb.use f) = b.recs.filter (kb.use f) ++ (rc.flat (bs.take J)).filter (kb.use f) := by
          unfold rc.flat
          simp
        rw [e]
        unfold kc.free at hr ⊢
        rw [List.foldl_append, ← hr]
      · rcases h3 with ⟨h5, h6, h7⟩ | ⟨b', h5, h6, h7⟩
        · refine .inl ⟨by simpa using h5, fun h => (by cases h), fun b' hb' => ?_⟩
          rw [List.getLast?_cons] at hb'
          cases hl : bs.getLast? with
          | none =>
            rw [hl] at hb'
            obtain rfl : b = b' := by simpa using hb'
            exact h6 (List.getLast?_eq_none_iff.1 hl)
          | some y =>
            rw [hl] at hb'
            obtain rfl : y = b' := by simpa using hb'
            exact h7 y hl
        · exact .inr ⟨b', by simpa using h5, h6, h7⟩
    · rw [if_neg hs]
      exact ⟨⟨0, Nat.zero_le _, rfl, .inr ⟨b, rfl, fun e => hs (by rw [e]; rfl), rfl⟩⟩, h⟩

/-- Records of a batch rise; so do batches. -/
def kc.ROk (b : Bat) : Int → List Rec → Prop
  | l, [] => l ≤ b.last
  | l, r :: rs => (l < r.off ∧ b.base ≤ r.off ∧ r.off ≤ b.last) ∧ kc.ROk b r.off rs
def kc.BOk : Int → List Bat → Prop
  | _, [] => True
  | l, b :: bs => (l < b.base ∧ kc.ROk b l b.recs ∧ b.last ≤ 4611686018427387904) ∧ kc.BOk b.last bs
theorem kc.ROk.all {b : Bat} : ∀ (rs : List Rec) (l : Int), kc.ROk b l rs → l ≤ b.last ∧ (∀ r ∈ rs, l < r.off ∧ b.base ≤ r.off ∧ r.off ≤ b.last) ∧ rs.Pairwise (fun x y => x.off < y.off)
  | [], _, h => ⟨h, fun r hr => (by cases hr), .nil⟩
  | x :: rs, l, h => by
    obtain ⟨h1, h2⟩ := h
    obtain ⟨i1, i2, i3⟩ := kc.ROk.all rs x.off h2
    refine ⟨by omega, fun r hr => ?_, List.pairwise_cons.2 ⟨fun r hr => (i2 r hr).1, i3⟩⟩
    rcases List.mem_cons.1 hr with rfl | hr
    · exact h1
    · have := i2 r hr
      omega
theorem kc.flat_cons (b : Bat) (bs : List Bat) : rc.flat (b :: bs) = b.recs ++ rc.flat bs := by unfold rc.flat; simp
theorem kc.BOk.all : ∀ (bs : List Bat) (l : Int), kc.BOk l bs → (∀ r ∈ rc.flat bs, l < r.off) ∧ (rc.flat bs).Pairwise (fun x y => x.off < y.off)
  | [], _, _ => ⟨fun r hr => (by cases hr), .nil⟩
  | b :: bs, l, h => by
    obtain ⟨⟨h1, h2, h3⟩, h4⟩ := h
    obtain ⟨j1, j2, j3⟩ := kc.ROk.all b.recs l h2
    obtain ⟨i1, i2⟩ := kc.BOk.all bs b.last h4
    rw [kc.flat_cons]
    refine ⟨fun r hr => ?_, List.pairwise_append.2 ⟨j3, i2, fun x hx y hy => ?_⟩⟩
    · rcases List.mem_append.1 hr with hr | hr
      · exact (j2 r hr).1
      · have := i1 r hr
        omega
    · have := (j2 x hx).2.2
      have := i1 y hy
      omega
theorem kc.BOk.split : ∀ (bs : List Bat) (l : Int) (J : Nat) (b : Bat), kc.BOk l bs → bs[J]? = some b → b.recs ≠ [] → (∀ r ∈ rc.flat (bs.take J), r.off < b.base) ∧ ∀ r ∈ rc.flat (bs.drop J), b.base ≤ r.off
  | [], _, _, _, _, h, _ => by cases h
  | x :: bs, l, 0, b, h, hb, hn => by
    obtain rfl : x = b := by simpa using hb
    obtain ⟨⟨h1, h2, h3⟩, h4⟩ := h
    obtain ⟨j1, j2, j3⟩ := kc.ROk.all x.recs l h2
    obtain ⟨i1, i2⟩ := kc.BOk.all bs x.last h4
    obtain ⟨r0, hr0⟩ := List.exists_mem_of_ne_nil _ hn
    have j4 := j2 r0 hr0
    refine ⟨fun r hr => (by cases hr), fun r hr => ?_⟩
    rw [List.drop_zero, kc.flat_cons] at hr
    rcases List.mem_append.1 hr with hr | hr
    · exact (j2 r hr).2.1
    · have := i1 r hr
      omega
  | x :: bs, l, J + 1, b, h, hb, hn => by
    obtain ⟨⟨h1, h2, h3⟩, h4⟩ := h
    rw [List.getElem?_cons_succ] at hb
    obtain ⟨i1, i2⟩ := kc.BOk.split bs x.last J b h4 hb hn
    obtain ⟨j1, j2, j3⟩ := kc.ROk.all x.recs l h2
    have hlt : x.last < b.base := kc.BOk.next bs x.last J b h4 hb
    refine ⟨fun r hr => ?_, fun r hr => i2 r hr⟩
    rw [List.take_succ_cons, kc.flat_cons] at hr
    rcases List.mem_append.1 hr with hr | hr
    · have := (j2 r hr).2.2
      omega
    · exact i1 r hr
where
  kc.BOk.next : ∀ (bs : List Bat) (l : Int) (J : Nat) (b : Bat), kc.BOk l bs → bs[J]? = some b → l < b.base
  | [], _, _, _, _, h => by cases h
  | x :: bs, l, 0, b, h, hb => by
    obtain rfl : x = b := by simpa using hb
    exact h.1.1
  | x :: bs, l, J + 1, b, h, hb => by
    rw [List.getElem?_cons_succ] at hb
    have := kc.BOk.next bs x.last J b h.2 hb
    have := (kc.ROk.all x.recs l h.1.2.1).1
    omega
theorem kc.BOk.le_last : ∀ (bs : List Bat) (l : Int) (b : Bat), kc.BOk l bs → bs.getLast? = some b → ∀ r ∈ rc.flat bs, r.off ≤ b.last
  | [], _, _, _, h => by cases h
  | x :: bs, l, b, h, hb => by
    obtain ⟨⟨h1, h2, h3⟩, h4⟩ := h
    obtain ⟨j1, j2, j3⟩ := kc.ROk.all x.recs l h2
    intro r hr
    rw [kc.flat_cons] at hr
    rw [List.getLast?_cons] at hb
    cases hl : bs.getLast? with
    | none =>
      rw [hl] at hb
      obtain rfl : x = b := by simpa using hb
      have hnil := List.getLast?_eq_none_iff.1 hl
      subst hnil
      rcases List.mem_append.1 hr with hr | hr
      · exact (j2 r hr).2.2
      · cases hr
    | some y =>
      rw [hl] at hb
      obtain rfl : y = b := by simpa using hb
      rcases List.mem_append.1 hr with hr | hr
      · have h5 := kc.last_le bs x.last y h4 hl
        have := (j2 r hr).2.2
        omega
      · exact kc.BOk.le_last bs x.last y h4 hl r hr
where
  kc.last_le : ∀ (bs : List Bat) (l : Int) (b : Bat), kc.BOk l bs → bs.getLast? = some b → l ≤ b.last
  | [], _, _, _, h => by cases h
  | x :: bs, l, b, h, hb => by
    have h0 := (kc.ROk.all x.recs l h.1.2.1).1
    rw [List.getLast?_cons] at hb
    cases hl : bs.getLast? with
    | none =>
      rw [hl] at hb
      obtain rfl : x = b := by simpa using hb
      exact h0
    | some y =>
      rw [hl] at hb
      obtain rfl : y = b := by simpa using hb
      have := kc.last_le bs x.last y h.2 hl
      omega
/-- Is a record in the window? -/
def kc.win (f u : Int) (r : Rec) : Bool := kb.use f r && decide (r.off < u)
theorem kc.window {f : Int} {bs : List Bat} {R : Nat × (ByteArray → Option Int) × Int} (hb : kc.BOk (-1) bs) (h : kc.Res f 0 (fun _ => none) f bs R) :
    (R.1, R.2.1) = kc.free (0, fun _ => none) ((rc.flat bs).filter (kc.win f R.2.2)) ∧ f ≤ R.2.2 := by
  obtain ⟨J, h1, h2, h3⟩ := h
  rw [h2]
  rcases h3 with ⟨h4, h5, h6⟩ | ⟨b, h4, hn, h5⟩
  · rw [h4, List.take_of_length_le (Nat.le_refl _)]
    cases hl : bs.getLast? with
    | none =>
      have hnil := List.getLast?_eq_none_iff.1 hl
      exact ⟨by rw [hnil]; rfl, by rw [h5 hnil]; exact Int.le_refl _⟩
    | some b =>
      have hle := kc.BOk.le_last bs (-1) b hb hl
      have hu := h6 b hl
      refine ⟨?_, by rw [hu]; omega⟩
      rw [List.filter_congr fun r hr => ?_]
      unfold kc.win
      have := hle r hr
      rw [decide_eq_true (show r.off < R.2.2 by rw [hu]; omega), Bool.and_true]
  · obtain ⟨s1, s2⟩ := kc.BOk.split bs (-1) J b hb h4 hn
    refine ⟨?_, by rw [h5]; omega⟩
    have e : rc.flat bs = rc.flat (bs.take J) ++ rc.flat (bs.drop J) := by
      unfold rc.flat
      rw [← List.flatten_append, ← List.map_append, List.take_append_drop]
    rw [e, List.filter_append]
    rw [show (rc.flat (bs.drop J)).filter (kc.win f R.2.2) = [] from List.filter_eq_nil_iff.2 fun r hr => by
      have := s2 r hr
      unfold kc.win kb.use
      by_cases h7 : f ≤ r.off
      · rw [decide_eq_false (show ¬ r.off < R.2.2 by rw [h5]; omega)]; simp
      · rw [decide_eq_false h7]; simp]
    rw [List.append_nil, List.filter_congr fun r hr => ?_]
    unfold kc.win
    have := s1 r hr
    rw [decide_eq_true (show r.off < R.2.2 by rw [h5]; omega), Bool.and_true]
/-- What the law's inner loop gathers. -/
def kc.hit (f u : Int) (x r : Rec) : Bool := kc.win f u r && decide (strOf r.key = strOf x.key)
def kc.want (f u : Int) (x : Rec) (m : Int) (rs : List Rec) : Int := rs.foldl (fun m r => if kc.hit f u x r = true then max m r.off else m) m
def kc.first (f u : Int) (x : Rec) (rs : List Rec) : Bool := rs.all fun r => !(kc.hit f u x r) || decide (x.off ≤ r.off)
theorem kc.want_succ (f u : Int) (x : Rec) (m : Int) (rs : List Rec) (k : Nat) (r : Rec) (h : rs[k]? = some r) : kc.want f u x m (rs.take (k + 1)) = if kc.hit f u x r = true then max (kc.want f u x m (rs.take k)) r.off else kc.want f u x m (rs.take k) := by
  obtain ⟨hk, e⟩ := List.getElem?_eq_some_iff.1 h
  rw [List.take_succ_eq_append_getElem hk, e]
  unfold kc.want
  rw [List.foldl_append]
  rfl
theorem kc.first_succ (f u : Int) (x : Rec) (rs : List Rec) (k : Nat) (r : Rec) (h : rs[k]? = some r) : kc.first f u x (rs.take (k + 1)) = if kc.hit f u x r = true then (kc.first f u x (rs.take k) && decide (x.off ≤ r.off)) else kc.first f u x (rs.take k) := by
  obtain ⟨hk, e⟩ := List.getElem?_eq_some_iff.1 h
  rw [List.take_succ_eq_append_getElem hk, e]
  unfold kc.first
  rw [List.all_append]
  by_cases hh : kc.hit f u x r = true
  · simp [hh]
  · have : kc.hit f u x r = false := by simpa using hh
    simp [this]
theorem kc.want_bd (f u : Int) (x : Rec) : ∀ (rs : List Rec) (m : Int), (∀ r ∈ rs, -9223372036854775808 ≤ r.off ∧ r.off ≤ 9223372036854775807) → -9223372036854775808 ≤ m ∧ m ≤ 9223372036854775807 → -9223372036854775808 ≤ kc.want f u x m rs ∧ kc.want f u x m rs ≤ 9223372036854775807
  | [], m, _, h => h
  | r :: rs, m, h, hm => by
    have := h r (by simp)
    refine kc.want_bd f u x rs (if kc.hit f u x r = true then max m r.off else m) (fun y hy => h y (by simp [hy])) ?_
    split <;> omega
theorem kc.want_max (f u : Int) (x : Rec) : ∀ (rs : List Rec) (a b : Int), kc.want f u x (max a b) rs = max a (kc.want f u x b rs)
  | [], _, _ => rfl
  | r :: rs, a, b => by
    show kc.want f u x (if kc.hit f u x r = true then max (max a b) r.off else max a b) rs = max a (kc.want f u x (if kc.hit f u x r = true then max b r.off else b) rs)
    rw [← kc.want_max f u x rs]
    congr 1
    split <;> omega
theorem kc.want_le (f u : Int) (x : Rec) : ∀ (rs : List Rec) (b : Int), ∀ r ∈ rs, kc.hit f u x r = true → r.off ≤ kc.want f u x b rs
  | [], _, _, h, _ => by cases h
  | y :: rs, b, r, h, hh => by
    show r.off ≤ kc.want f u x (if kc.hit f u x y = true then max b y.off else b) rs
    rcases List.mem_cons.1 h with rfl | h
    · rw [if_pos hh, show max b r.off = max r.off b by omega, kc.want_max]
      omega
    · exact kc.want_le f u x rs _ r h hh
def kc.mx (f u : Int) (x : Rec) (o : Option Int) (rs : List Rec) : Option Int := rs.foldl (fun o r => if kc.hit f u x r = true then some (match o with | some m => max m r.off | none => r.off) else o) o
theorem kc.free_at (f u : Int) (x : Rec) : ∀ (rs : List Rec) (N : Nat) (g : ByteArray → Option Int), (kc.free (N, g) (rs.filter (kc.win f u))).2 (strOf x.key) = kc.mx f u x (g (strOf x.key)) rs
  | [], _, _ => rfl
  | r :: rs, N, g => by
    by_cases hw : kc.win f u r = true
    · rw [List.filter_cons_of_pos hw]
      show (kc.free (kc.step (N, g) r) _).2 _ = kc.mx f u x (if kc.hit f u x r = true then _ else _) rs
      rw [show kc.step (N, g) r = ((kc.step (N, g) r).1, kmax g (strOf r.key) r.off) from rfl, kc.free_at f u x rs, kmax_at]
      unfold kc.hit
      rw [hw, Bool.true_and]
      by_cases e : strOf r.key = strOf x.key
      · rw [if_pos e.symm, decide_eq_true e, if_pos rfl, e]
        cases g (strOf x.key) <;> rfl
      · rw [if_neg (fun h => e h.symm), decide_eq_false e, if_neg (by simp)]
    · have hw' : kc.win f u r = false := by simpa using hw
      rw [List.filter_cons_of_neg hw, kc.free_at f u x rs]
      show _ = kc.mx f u x (if kc.hit f u x r = true then _ else _) rs
      unfold kc.hit
      rw [hw', Bool.false_and, if_neg (by simp)]
theorem kc.at_some (f u : Int) (x : Rec) : ∀ (rs : List Rec) (m : Int), kc.mx f u x (some m) rs = some (kc.want f u x m rs)
  | [], _ => rfl
  | r :: rs, m => by
    show kc.mx f u x (if kc.hit f u x r = true then some (max m r.off) else some m) rs = some (kc.want f u x (if kc.hit f u x r = true then max m r.off else m) rs)
    split
    · exact kc.at_some f u x rs _
    · exact kc.at_some f u x rs _
theorem kc.at_none (f u : Int) (x : Rec) : ∀ (rs : List Rec), x ∈ rs → kc.hit f u x x = true → kc.mx f u x none rs = some (kc.want f u x x.off rs)
  | [], h, _ => by cases h
  | r :: rs, h, hx => by
    show kc.mx f u x (if kc.hit f u x r = true then some r.off else none) rs = some (kc.want f u x (if kc.hit f u x r = true then max x.off r.off else x.off) rs)
    by_cases hr : kc.hit f u x r = true
    · rw [if_pos hr, if_pos hr, kc.at_some, kc.want_max]
      congr 1
      rcases List.mem_cons.1 h with rfl | h
      · have e := kc.want_max f u x rs x.off x.off
        rw [show max x.off x.off = x.off by omega] at e
        exact e
      · have := kc.want_le f u x rs r.off x h hx
        omega
    · rw [if_neg hr, if_neg hr]
      rcases List.mem_cons.1 h with rfl | h
      · exact absurd hx hr
      · exact kc.at_none f u x rs h hx
theorem kc.hit_self {f u : Int} {x : Rec} (h : kc.win f u x = true) : kc.hit f u x x = true := by unfold kc.hit; rw [h, decide_eq_true rfl]; rfl
theorem kc.last {f u : Int} {x : Rec} {all : List Rec} {i : Nat} (h : all[i]? = some x) (hw : kc.win f u x = true) : (kc.free (0, fun _ => none) (all.filter (kc.win f u))).2 (strOf x.key) = some (kc.want f u x x.off all) := by
  rw [kc.free_at]
  exact kc.at_none f u x all (List.mem_of_getElem? h) (kc.hit_self hw)
theorem kc.at_isSome (f u : Int) (x : Rec) : ∀ (rs : List Rec) (o : Option Int), (kc.mx f u x o rs).isSome = (o.isSome || rs.any (kc.hit f u x))
  | [], o => by simp [kc.mx]
  | r :: rs, o => by
    show (kc.mx f u x (if kc.hit f u x r = true then _ else _) rs).isSome = _
    rw [kc.at_isSome f u x rs, List.any_cons]
    by_cases hr : kc.hit f u x r = true
    · rw [if_pos hr, hr]; simp
    · rw [if_neg hr, show kc.hit f u x r = false by simpa using hr]; simp
theorem kc.all_eq {p q : Rec → Bool} : ∀ (rs : List Rec), (∀ r ∈ rs, p r = q r) → rs.all p = rs.all q
  | [], _ => rfl
  | r :: rs, h => by rw [List.all_cons, List.all_cons, h r (by simp), kc.all_eq rs fun y hy => h y (by simp [hy])]
theorem kc.first_eq {f u : Int} {x : Rec} {all : List Rec} {i : Nat} (hp : all.Pairwise (fun x y => x.off < y.off)) (h : all[i]? = some x) : kc.first f u x all = !((all.take i).any (kc.hit f u x)) := by
  obtain ⟨hi, e⟩ := List.getElem?_eq_some_iff.1 h
  have ea : all = all.take i ++ (x :: all.drop (i + 1)) := by
    rw [← e, List.getElem_cons_drop, List.take_append_drop]
  rw [ea] at hp
  obtain ⟨-, p2, p3⟩ := List.pairwise_append.1 hp
  have p4 := (List.pairwise_cons.1 p2).1
  conv => lhs; rw [ea]
  unfold kc.first
  rw [List.all_append]
  have h2 : (x :: all.drop (i + 1)).all (fun r => !(kc.hit f u x r) || decide (x.off ≤ r.off)) = true := List.all_eq_true.2 fun r hr => by
    rcases List.mem_cons.1 hr with rfl | hr
    · simp
    · have := p4 r hr
      rw [decide_eq_true (show x.off ≤ r.off by omega)]
      simp
  rw [h2, Bool.and_true, List.not_any_eq_all_not]
  refine kc.all_eq _ fun r hr => ?_
  have := p3 r hr x (by simp)
  rw [decide_eq_false (show ¬ x.off ≤ r.off by omega), Bool.or_false]
theorem kc.count {f u : Int} {x : Rec} {all : List Rec} {i : Nat} (hp : all.Pairwise (fun x y => x.off < y.off)) (h : all[i]? = some x) (hw : kc.win f u x = true) :
    (kc.free (0, fun _ => none) ((all.take (i + 1)).filter (kc.win f u))).1 = if kc.first f u x all = true then (kc.free (0, fun _ => none) ((all.take i).filter (kc.win f u))).1 + 1 else (kc.free (0, fun _ => none) ((all.take i).filter (kc.win f u))).1 := by
  obtain ⟨hi, e⟩ := List.getElem?_eq_some_iff.1 h
  have h1 := kc.free_at f u x (all.take i) 0 (fun _ => none)
  have h2 := kc.at_isSome f u x (all.take i) none
  rw [kc.first_eq hp h, List.take_succ_eq_append_getElem hi, e, List.filter_append, List.filter_cons_of_pos hw]
  unfold kc.free at h1 ⊢
  rw [List.foldl_append]
  show (kc.step (List.foldl kc.step (0, fun _ => none) ((all.take i).filter (kc.win f u))) x).1 = _
  generalize List.foldl kc.step (0, fun _ => none) ((all.take i).filter (kc.win f u)) = R at *
  show (if (R.2 (strOf x.key)).isSome then R.1 else R.1 + 1) = _
  rw [h1, h2, Option.isSome_none, Bool.false_or]
  cases (all.take i).any (kc.hit f u x) <;> rfl
theorem kc.count_no {f u : Int} {x : Rec} {all : List Rec} {i : Nat} (h : all[i]? = some x) (hw : ¬ kc.win f u x = true) :
    (kc.free (0, fun _ => none) ((all.take (i + 1)).filter (kc.win f u))).1 = (kc.free (0, fun _ => none) ((all.take i).filter (kc.win f u))).1 := by
  obtain ⟨hi, e⟩ := List.getElem?_eq_some_iff.1 h
  rw [List.take_succ_eq_append_getElem hi, e, List.filter_append, List.filter_cons_of_neg hw]
  simp
theorem kc.flat_len {m : Nat} : ∀ (bs : List Bat), (∀ b ∈ bs, b.recs.length ≤ m) → (rc.flat bs).length ≤ m * bs.length
  | [], _ => Nat.zero_le _
  | b :: bs, h => by
    have h1 := kc.flat_len bs fun x hx => h x (by simp [hx])
    have h2 := h b (by simp)
    rw [kc.flat_cons, List.length_append, List.length_cons, Nat.mul_add, Nat.mul_one]
    omega
theorem kc.BOk.mem_last : ∀ (bs : List Bat) (l : Int), kc.BOk l bs → ∀ b ∈ bs, b.last ≤ 4611686018427387904
  | [], _, _, b, hb => by cases hb
  | x :: bs, l, h, b, hb => by
    rcases List.mem_cons.1 hb with rfl | hb
    · exact h.1.2.2
    · exact kc.BOk.mem_last bs _ h.2 b hb
theorem kc.cnt_le : ∀ (rs : List Rec) (s : Nat × (ByteArray → Option Int)), (kc.free s rs).1 ≤ s.1 + rs.length
  | [], _ => Nat.le_refl _
  | r :: rs, s => by
    have h := kc.cnt_le rs (kc.step s r)
    have h2 : (kc.step s r).1 ≤ s.1 + 1 := by unfold kc.step; dsimp only; split <;> omega
    show (kc.free (kc.step s r) rs).1 ≤ _
    rw [List.length_cons]
    omega
/-- How many keys a beginning has. -/
def kc.cnt (f u : Int) (all : List Rec) (i : Nat) : Nat := (kc.free (0, fun _ => none) ((all.take i).filter (kc.win f u))).1
theorem kc.cnt_small (f u : Int) (all : List Rec) (i : Nat) : kc.cnt f u all i ≤ all.length := by
  have h1 := kc.cnt_le ((all.take i).filter (kc.win f u)) (0, fun _ => none)
  have h2 := List.length_filter_le (kc.win f u) (all.take i)
  have h3 : (all.take i).length ≤ all.length := by rw [List.length_take]; omega
  unfold kc.cnt
  dsimp only at h1
  omega
end Go.Proofs.Ytnlfdhoabbbheaa

/- Cleaning again: what stays fit for another cleaning, and what another one takes. No function of the program is named. -/
import Derived.Test.YtnlfdhoabbbheaaClR
namespace Go.Proofs.Ytnlfdhoabbbheaa
open Go.RowKit
set_option maxRecDepth 20000

theorem ct.rok {b b' : Bat} (h1 : b'.base = b.base) (h2 : b'.last = b.last) (F : Rec → Bool) : ∀ (rs : List Rec) (l l' : Int), kc.ROk b l rs → l' ≤ l → kc.ROk b' l' (rs.filter F)
  | [], l, l', h, hl => by
    have h : l ≤ b.last := h
    show l' ≤ b'.last
    omega
  | r :: rs, l, l', h, hl => by
    obtain ⟨⟨h3, h4, h5⟩, h6⟩ := h
    by_cases hr : F r = true
    · rw [List.filter_cons_of_pos hr]
      exact ⟨⟨by omega, by omega, by omega⟩, ct.rok h1 h2 F rs r.off r.off h6 (Int.le_refl _)⟩
    · rw [List.filter_cons_of_neg hr]
      exact ct.rok h1 h2 F rs r.off l' h6 (by omega)
theorem ct.rok_last {b : Bat} : ∀ (rs : List Rec) (l : Int), kc.ROk b l rs → l ≤ b.last
  | [], _, h => h
  | r :: rs, l, h => by
    have := ct.rok_last rs r.off h.2
    have := h.1.1
    omega
theorem ct.bok (F : Rec → Bool) : ∀ (bs tl : List Bat) (l l' : Int), kc.BOk l (bs ++ tl) → l' ≤ l → kc.BOk l' (ps.all F bs ++ tl)
  | [], [], _, _, _, _ => trivial
  | [], b :: bs, l, l', h, hl => by
    obtain ⟨⟨h1, h2, h3⟩, h4⟩ := h
    refine ⟨⟨by omega, ?_, h3⟩, h4⟩
    have h5 := ct.rok (b := b) (b' := b) rfl rfl (fun _ => true) b.recs l l' h2 hl
    rw [List.filter_eq_self.2 (fun _ _ => rfl)] at h5
    exact h5
  | b :: bs, tl, l, l', h, hl => by
    obtain ⟨⟨h1, h2, h3⟩, h4⟩ := h
    have hlast := ct.rok_last _ _ h2
    unfold ps.all
    rw [List.map_cons, List.filter_cons]
    split
    · refine ⟨⟨?_, ct.rok (b := b) (b' := ps.cut F b) rfl rfl F b.recs l l' h2 hl, h3⟩, ct.bok F bs tl b.last b.last h4 (Int.le_refl _)⟩
      show l' < b.base
      omega
    · exact ct.bok F bs tl b.last l' h4 (by omega)
theorem ct.built {f M : Int} {bs : List Bat} (hb : kc.BOk (-1) bs) (hM : 0 ≤ M) : ck.Map f (kb.go f M 0 (fun _ => none) f bs).2.2 (rc.flat bs) (kb.go f M 0 (fun _ => none) f bs).2.1 ∧ f ≤ (kb.go f M 0 (fun _ => none) f bs).2.2 := by
  have h1 := (kc.go (f := f) (M := M) bs 0 (fun _ => none) f (by simpa using hM)).1
  obtain ⟨h2, h3⟩ := kc.window hb h1
  exact ⟨ck.map_of h2, h3⟩

/-- Segments that may be cleaned (again). -/
structure cp.Fit (ss : List (List Bat)) : Prop where
  len : ss.length ≤ 20
  size : ss.flatten.length ≤ 4000
  small : fo.Small ss.flatten
  recs : (rc.flat ss.flatten).length ≤ 4000
  bok : kc.BOk (-1) ss.flatten
  times : ∀ x ∈ ss.flatten, x.last ≤ 4611686018427387904 ∧ ∀ r ∈ x.recs, 0 ≤ r.time
  full : ∀ x ∈ ss.flatten, x.recs ≠ []
  bytes : ∀ r ∈ rc.flat ss.flatten, r.key.length ≤ 4000 ∧ r.val.length ≤ 4000
theorem cp.May.fit {ss : List (List Bat)} (h : cp.May ss) : cp.Fit ss := by
  obtain ⟨h1, h2, h3, h4⟩ := cp.small h.sum
  refine ⟨h.len, h1, h2, h3, h.good.bok, h.times, fun x hx => ?_, h4⟩
  have := (cp.Good.mem h.good x hx).2.2.1
  intro e
  rw [e] at this
  simp at this
theorem ct.all_mem {F : Rec → Bool} {bs : List Bat} {x : Bat} (h : x ∈ ps.all F bs) : ∃ b ∈ bs, x = ps.cut F b ∧ x.recs ≠ [] := by
  obtain ⟨h1, h2⟩ := List.mem_filter.1 h
  obtain ⟨b, hb, rfl⟩ := List.mem_map.1 h1
  refine ⟨b, hb, rfl, fun e => ?_⟩
  rw [e] at h2
  simp at h2
/-- What is left may be cleaned again. -/
theorem cp.Fit.outs {ss : List (List Bat)} {F : Rec → Bool} (h : cp.Fit ss) : cp.Fit (cl.outs F ss ss.length) := by
  obtain ⟨be, ac, h1, -, h3⟩ := ck.outs_flat F ss
  obtain ⟨hl, hs, hsm, hr, hb, ht, hf, hy⟩ := h
  rw [h1] at hs hsm hr hb ht hf hy
  have hmem : ∀ x ∈ ps.all F be ++ ac, ∃ b ∈ be ++ ac, x.last = b.last ∧ (∀ r ∈ x.recs, r ∈ b.recs) ∧ x.recs.length ≤ b.recs.length ∧ x.recs ≠ [] := fun x hx => by
    rcases List.mem_append.1 hx with hx | hx
    · obtain ⟨b, hb, rfl, hne⟩ := ct.all_mem hx
      exact ⟨b, List.mem_append_left _ hb, rfl, fun r hr => (List.mem_filter.1 hr).1, List.length_filter_le _ _, hne⟩
    · have hx' := List.mem_append_right be hx
      exact ⟨x, hx', rfl, fun r hr => hr, Nat.le_refl _, hf x hx'⟩
  have hlen : (ps.all F be ++ ac).length ≤ 4000 := by
    have := ps.all_len F be
    rw [List.length_append] at hs ⊢
    omega
  refine ⟨by rw [cl.outs_len]; exact hl, ?_, ?_, ?_, ?_, ?_, ?_, ?_⟩
  · rw [h3]; exact hlen
  · rw [h3]
    refine ⟨by omega, fun x hx => ?_⟩
    obtain ⟨b, hb, -, h5, h6, -⟩ := hmem x hx
    obtain ⟨h7, h8⟩ := hsm.2 b hb
    exact ⟨by omega, fun r hr => h8 r (h5 r hr)⟩
  · rw [h3, cl.flat_app, ck.flat_all]
    rw [cl.flat_app] at hr
    have := List.length_filter_le F (rc.flat be)
    rw [List.length_append] at hr ⊢
    omega
  · rw [h3]
    exact ct.bok F be ac _ _ hb (Int.le_refl _)
  · rw [h3]
    intro x hx
    obtain ⟨b, hb, h4, h5, -, -⟩ := hmem x hx
    rw [h4]
    exact ⟨(ht b hb).1, fun r hr => (ht b hb).2 r (h5 r hr)⟩
  · rw [h3]
    intro x hx
    obtain ⟨b, hb, -, -, -, h7⟩ := hmem x hx
    exact h7
  · rw [h3, cl.flat_app, ck.flat_all]
    rw [cl.flat_app] at hy
    intro r hr
    rcases List.mem_append.1 hr with hr | hr
    · exact hy r (List.mem_append_left _ (List.mem_filter.1 hr).1)
    · exact hy r (List.mem_append_right _ hr)

theorem ct.scan {f M : Int} {N : Nat} {g : ByteArray → Option Int} : ∀ (rs : List Rec) (F : Nat) (h : ByteArray → Option Int), (N : Int) + F + rs.length ≤ M → kb.scan f M N g F h rs = true
  | [], _, _, _ => rfl
  | r :: rs, F, h, hle => by
    have hlen : (((r :: rs).length : Nat) : Int) = (rs.length : Int) + 1 := by simp
    have hmore : kb.more F h (strOf r.key) ≤ F + 1 := by unfold kb.more; split <;> omega
    unfold kb.scan
    split
    · exact ct.scan rs F h (by omega)
    · split
      · rw [if_neg (by omega)]
        exact ct.scan rs F h (by omega)
      · rw [if_neg (by omega)]
        exact ct.scan rs _ _ (by omega)
theorem ct.offers_le {f M : Int} : ∀ (rs : List Rec) (N : Nat) (g : ByteArray → Option Int), (kb.offers f M N g rs).1 ≤ N + rs.length
  | [], _, _ => Nat.le_refl _
  | r :: rs, N, g => by
    have hc : key.cnt N M g (strOf r.key) ≤ N + 1 := by unfold key.cnt; split; · omega
                                                        · split <;> omega
    have h1 := ct.offers_le (f := f) (M := M) rs (key.cnt N M g (strOf r.key)) (key.put N M g (strOf r.key) r.off)
    have h2 := ct.offers_le (f := f) (M := M) rs N g
    unfold kb.offers
    rw [List.length_cons]
    split <;> omega
/-- With room for all, all is clean up to the end. -/
theorem ct.go_end {f M : Int} : ∀ (bs : List Bat) (N : Nat) (g : ByteArray → Option Int) (up : Int), (N : Int) + (rc.flat bs).length ≤ M → ∀ b, bs.getLast? = some b → b.last < (kb.go f M N g up bs).2.2
  | [], _, _, _, _, _, h => by cases h
  | [x], N, g, up, hle, b, hb => by
    obtain rfl : x = b := by simpa using hb
    have hx : rc.flat [x] = x.recs := by unfold rc.flat; simp
    rw [hx] at hle
    unfold kb.go
    rw [if_pos (ct.scan x.recs 0 _ (by omega))]
    show x.last < max (x.last + 1) f
    omega
  | x :: y :: bs, N, g, up, hle, b, hb => by
    rw [rc.flat_one, List.length_append] at hle
    have h1 := ct.offers_le (f := f) (M := M) x.recs N g
    unfold kb.go
    rw [if_pos (ct.scan x.recs 0 _ (by omega))]
    exact ct.go_end (y :: bs) _ _ _ (by omega) b (by simpa [List.getLast?_cons_cons] using hb)
theorem ct.covered {f M : Int} {bs : List Bat} (hb : kc.BOk (-1) bs) (hle : ((rc.flat bs).length : Int) ≤ M) : ∀ r ∈ rc.flat bs, r.off < (kb.go f M 0 (fun _ => none) f bs).2.2 := fun r hr => by
  cases hl : bs.getLast? with
  | none =>
    rw [List.getLast?_eq_none_iff.1 hl] at hr
    simp [rc.flat] at hr
  | some b =>
    have h1 := kc.BOk.le_last bs _ b hb hl r hr
    have h2 := ct.go_end (f := f) (M := M) bs 0 (fun _ => none) f (by simpa using hle) b hl
    omega
/-- Of what is clean, one record of a key is left: the last one. -/
theorem ct.left {U now grace : Int} {rs : List Rec} {g : ByteArray → Option Int} (h : ck.Map 0 U rs g) (hlo : ∀ r ∈ rs, 0 ≤ r.off) {r : Rec} (hr : r ∈ rs) (hk : r.hasKey = true) (hu : r.off < U) (hs : cl.stays g U now grace r = true) : g (strOf r.key) = some r.off ∧ ¬ (r.hasVal = false ∧ grace < now - r.time) := by
  obtain ⟨o, ho, hle⟩ := h.known r hr hk (hlo r hr) hu
  unfold cl.stays at hs
  rw [if_neg (by rw [hk]; simp; omega), ho] at hs
  dsimp only at hs
  by_cases h1 : r.off < o
  · rw [if_pos h1] at hs
    cases hs
  · rw [if_neg h1] at hs
    have he : o = r.off := by omega
    refine ⟨by rw [ho, he], fun hc => ?_⟩
    rw [if_pos hc] at hs
    cases hs
theorem ct.lo {bs : List Bat} (hb : kc.BOk (-1) bs) : ∀ r ∈ rc.flat bs, 0 ≤ r.off := fun r hr => by
  have := (kc.BOk.all _ _ hb).1 r hr
  omega
theorem ct.one {U now grace : Int} {bs : List Bat} {g : ByteArray → Option Int} (hb : kc.BOk (-1) bs) (h : ck.Map 0 U (rc.flat bs) g) (hu : ∀ r ∈ rc.flat bs, r.off < U) {r s : Rec} (hr : r ∈ rc.flat (ps.all (cl.stays g U now grace) bs)) (hs : s ∈ rc.flat (ps.all (cl.stays g U now grace) bs)) (h1 : r.hasKey = true) (h2 : s.hasKey = true) (he : strOf r.key = strOf s.key) : r.off = s.off := by
  rw [ck.flat_all] at hr hs
  obtain ⟨r1, r2⟩ := List.mem_filter.1 hr
  obtain ⟨s1, s2⟩ := List.mem_filter.1 hs
  have e1 := (ct.left h (ct.lo hb) r1 h1 (hu r r1) r2).1
  have e2 := (ct.left h (ct.lo hb) s1 h2 (hu s s1) s2).1
  rw [he, e2] at e1
  exact (Option.some.inj e1).symm
/-- No two records of one key are left of what is clean. -/
theorem ct.apart {U now grace : Int} {bs : List Bat} {g : ByteArray → Option Int} (hb : kc.BOk (-1) bs) (h : ck.Map 0 U (rc.flat bs) g) (hu : ∀ r ∈ rc.flat bs, r.off < U) {i k : Nat} {r s : Rec} (hr : (rc.flat (ps.all (cl.stays g U now grace) bs))[i]? = some r) (hs : (rc.flat (ps.all (cl.stays g U now grace) bs))[k]? = some s) (hki : k < i) (h1 : r.hasKey = true) (h2 : s.hasKey = true) : strOf r.key ≠ strOf s.key := fun he => by
  have e := ct.one hb h hu (List.mem_of_getElem? hr) (List.mem_of_getElem? hs) h1 h2 he
  have hb2 := ct.bok (cl.stays g U now grace) bs [] (-1) (-1) (by simpa using hb) (Int.le_refl _)
  rw [List.append_nil] at hb2
  have hp := (kc.BOk.all _ _ hb2).2
  obtain ⟨hi, ei⟩ := List.getElem?_eq_some_iff.1 hr
  obtain ⟨hk, ek⟩ := List.getElem?_eq_some_iff.1 hs
  have := List.pairwise_iff_getElem.1 hp k i hk hi hki
  rw [ei, ek] at this
  omega
/-- Another cleaning at the same time, from wherever, takes nothing. -/
theorem ct.again {U now grace f2 U2 : Int} {bs : List Bat} {g g2 : ByteArray → Option Int} (hb : kc.BOk (-1) bs) (h : ck.Map 0 U (rc.flat bs) g) (hu : ∀ r ∈ rc.flat bs, r.off < U) (h2 : ck.Map f2 U2 (rc.flat (ps.all (cl.stays g U now grace) bs)) g2) : ∀ r ∈ rc.flat (ps.all (cl.stays g U now grace) bs), cl.stays g2 U2 now grace r = true := fun r hr => by
  have hr0 := hr
  rw [ck.flat_all] at hr0
  obtain ⟨r1, r2⟩ := List.mem_filter.1 hr0
  unfold cl.stays
  by_cases hk : r.hasKey = false ∨ U2 ≤ r.off
  · rw [if_pos hk]
  · rw [if_neg hk]
    have hkey : r.hasKey = true := by
      cases hh : r.hasKey with
      | false => exact absurd (.inl hh) hk
      | true => rfl
    cases hg : g2 (strOf r.key) with
    | none => rfl
    | some o =>
      dsimp only
      obtain ⟨y, hy, y1, -, -, y4, y5⟩ := h2.is r o hg
      have e := ct.one hb h hu hy hr y1 hkey y4
      rw [if_neg (by omega), if_neg (ct.left h (ct.lo hb) r1 hkey (hu r r1) r2).2]
theorem ct.all_id {F : Rec → Bool} : ∀ {bs : List Bat}, (∀ x ∈ bs, x.recs ≠ []) → (∀ r ∈ rc.flat bs, F r = true) → ps.all F bs = bs
  | [], _, _ => rfl
  | b :: bs, hf, h => by
    have hcut : ps.cut F b = b := by
      unfold ps.cut
      rw [List.filter_eq_self.2 fun r hr => h r (by rw [rc.flat_one]; exact List.mem_append_left _ hr)]
    have hne := hf b (by simp)
    have hpos : 0 < b.recs.length := by
      cases hh : b.recs with
      | nil => exact absurd hh hne
      | cons _ _ => simp
    have ih := ct.all_id (F := F) (bs := bs) (fun x hx => hf x (by simp [hx])) (fun r hr => h r (by rw [rc.flat_one]; exact List.mem_append_right _ hr))
    unfold ps.all at ih ⊢
    rw [List.map_cons, List.filter_cons, hcut, if_pos (by simpa using hpos), ih]
/-- Where nothing is to go, all segments stay as they are. -/
theorem ct.outs_id {F : Rec → Bool} {ss : List (List Bat)} (hf : ∀ x ∈ ss.flatten, x.recs ≠ []) (h : ∀ r ∈ rc.flat (ss.take (ss.length - 1)).flatten, F r = true) : cl.outs F ss ss.length = ss ∧ cl.gone F ss ss.length = 0 := by
  have hseg : ∀ i, i < ss.length → cl.seg F ss i = ss.getD i [] := fun i hi => by
    unfold cl.seg
    split
    · rfl
    · have hi1 : ss[i]? = some ss[i] := List.getElem?_eq_getElem hi
      have hget : ss.getD i [] = ss[i] := by rw [List.getD_eq_getElem?_getD, hi1]; rfl
      rw [hget]
      have hm : ss[i] ∈ ss.take (ss.length - 1) := by
        rw [List.mem_take_iff_getElem]
        exact ⟨i, by omega, rfl⟩
      refine ct.all_id (fun x hx => hf x (List.mem_flatten.2 ⟨_, List.getElem_mem hi, hx⟩)) fun r hr => h r ?_
      unfold rc.flat at hr ⊢
      obtain ⟨l, hl, hx⟩ := List.mem_flatten.1 hr
      obtain ⟨b, hb, rfl⟩ := List.mem_map.1 hl
      exact List.mem_flatten.2 ⟨_, List.mem_map.2 ⟨b, List.mem_flatten.2 ⟨_, hm, hb⟩, rfl⟩, hx⟩
  constructor
  · apply List.ext_getElem?
    intro i
    unfold cl.outs
    by_cases hi : i < ss.length
    · rw [List.getElem?_map, List.getElem?_range hi]
      show some (cl.seg F ss i) = ss[i]?
      rw [hseg i hi, List.getElem?_eq_getElem hi, List.getD_eq_getElem?_getD, List.getElem?_eq_getElem hi]
      rfl
    · rw [List.getElem?_eq_none (by simp; omega), List.getElem?_eq_none (by omega)]
  · unfold cl.gone
    have hz : (List.range ss.length).map (fun i => ((rc.flat (ss.getD i [])).length : Int) - ((rc.flat (cl.seg F ss i)).length : Int)) = (List.range ss.length).map (fun _ => (0 : Int)) := by
      refine List.map_congr_left fun i hi => ?_
      rw [hseg i (List.mem_range.1 hi)]
      omega
    rw [hz]
    clear hz hseg h hf
    generalize ss.length = n
    induction n with
    | zero => rfl
    | succ n ih => rw [List.range_succ, List.map_append, List.sum_append, ih]; rfl
end Go.Proofs.Ytnlfdhoabbbheaa

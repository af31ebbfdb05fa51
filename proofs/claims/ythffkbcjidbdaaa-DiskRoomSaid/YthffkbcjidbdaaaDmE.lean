/- The disk in plain words: what a crash leaves says what the program's crash leaves. -/
import Derived.Test.YthffkbcjidbdaaaDmD
namespace Go.Proofs.Ythffkbcjidbdaaa
open Go.RowKit Go.Maps
set_option maxRecDepth 100000

def RDisk.keptN (M : RDisk) (ps : List Int) : RNames := rd.applyAll M.safe (M.acts.take (dk.pick ps (M.acts.length : Int)).1.toNat)
def RDisk.restP (M : RDisk) (ps : List Int) : List Int := (dk.pick ps (M.acts.length : Int)).2
structure RLeft where
  files : List FileV
  names : RNames
  picks : List Int
def rd.crashStep (M : RDisk) (x : RLeft) (nm : ByteArray × Nat) : RLeft :=
  ⟨x.files ++ [⟨(M.file nm.2).data.take (dk.keepOf (M.file nm.2) x.picks).1.toNat, (dk.keepOf (M.file nm.2) x.picks).1.toNat⟩], x.names ++ [(nm.1, x.files.length)], (dk.keepOf (M.file nm.2) x.picks).2⟩
def rd.crashAll (M : RDisk) (l : RNames) (ps : List Int) : RLeft := l.foldl (rd.crashStep M) ⟨[], [], ps⟩
def RDisk.crash (M : RDisk) (ps : List Int) : RDisk := ⟨M.room, (rd.crashAll M (M.keptN ps) (M.restP ps)).files, (rd.crashAll M (M.keptN ps) (M.restP ps)).names, (rd.crashAll M (M.keptN ps) (M.restP ps)).names, [], -1, false, 0⟩
theorem rd.crashAll_snoc (M : RDisk) (l : RNames) (x : ByteArray × Nat) (ps : List Int) : rd.crashAll M (l ++ [x]) ps = rd.crashStep M (rd.crashAll M l ps) x := by unfold rd.crashAll; simp
theorem rd.look_append (l m : RNames) (s : ByteArray) : rd.look (l ++ m) s = match rd.look l s with | some f => some f | none => rd.look m s := by
  induction l with
  | nil => rfl
  | cons x l ih =>
    show (if x.1 = s then some x.2 else rd.look (l ++ m) s) = match (if x.1 = s then some x.2 else rd.look l s) with | some f => some f | none => rd.look m s
    by_cases e : x.1 = s
    · rw [if_pos e, if_pos e]
    · rw [if_neg e, if_neg e, ih]
theorem rd.rises_iff (l : RNames) : rd.Rises l ↔ (l.map Prod.fst).Pairwise fun s t => bl.lt s t = true := by rw [List.pairwise_map]
theorem rd.sum_append (g : Nat → Int) (l m : RNames) : rd.sum g (l ++ m) = rd.sum g l + rd.sum g m := by unfold rd.sum; simp
/-- Bytes of files, by place. -/
def rd.at_ (fs : List FileV) (i : Nat) : FileV := fs.getD i rd.vd
theorem rd.at_old {fs : List FileV} {v : FileV} {i : Nat} (h : i < fs.length) : rd.at_ (fs ++ [v]) i = rd.at_ fs i := by
  unfold rd.at_
  rw [List.getD_eq_getElem?_getD, List.getElem?_append_left h, List.getD_eq_getElem?_getD]
theorem rd.at_new (fs : List FileV) (v : FileV) : rd.at_ (fs ++ [v]) fs.length = v := by unfold rd.at_; simp

/-- Both crashes, name by name. -/
structure rd.Both (x : RLeft) (y : DLeft) (l : RNames) : Prop where
  len : x.files.length = l.length
  names : x.names = (l.map Prod.fst).zipIdx
  picks : y.picks = x.picks
  used : y.used = rd.sum (fun i => ((rd.at_ x.files i).data.length : Int)) x.names
  by_ : ∀ s, y.by_ s = (rd.look x.names s).map fun i => (rd.at_ x.files i).data
  ok : ∀ v ∈ x.files, v.safe = v.data.length ∧ v.data.length ≤ 1099511627776 ∧ ∀ b ∈ v.data, b < 256
theorem rd.Both.step {D : Dsk} {M : RDisk} {ι : Nat → Nat} {N : DNames} {x : RLeft} {y : DLeft} {l : RNames} (h : rd.Both x y l) {nm : ByteArray × Nat} (hN : N nm.1 = some (ι nm.2)) (hf : D.file (ι nm.2) = M.file nm.2)
    (hv : (M.file nm.2).safe ≤ (M.file nm.2).data.length ∧ (M.file nm.2).data.length ≤ 1099511627776 ∧ ∀ b ∈ (M.file nm.2).data, b < 256) (hr : rd.Rises (l ++ [nm])) : rd.Both (rd.crashStep M x nm) (dk.leftStep D N y nm.1) (l ++ [nm]) := by
  obtain ⟨s, j⟩ := nm
  dsimp only at hN hf hv
  have hle := dk.keepOf_le (ps := x.picks) hv.1
  have hnew : ∀ z ∈ l, z.1 ≠ s := fun z hz => bl.ne ((List.pairwise_append.1 hr).2.2 z hz (s, j) (by simp))
  have hlook : rd.look x.names s = none := by
    rw [h.names]
    cases e : rd.look (l.map Prod.fst).zipIdx s with
    | none => rfl
    | some i =>
      have h1 := rd.look_mem e
      rw [List.mem_zipIdx_iff_getElem?] at h1
      have h2 := List.mem_of_getElem? h1
      obtain ⟨z, hz, e2⟩ := List.mem_map.1 h2
      exact absurd e2 (hnew z hz)
  have hlt : ∀ z ∈ x.names, z.2 < x.files.length := fun z hz => by
    rw [h.names, List.mem_zipIdx_iff_getElem?] at hz
    have := (List.getElem?_eq_some_iff.1 hz).1
    rw [List.length_map] at this
    rw [h.len]
    exact this
  obtain ⟨kp, hkp⟩ : ∃ kp, kp = dk.keepOf (M.file j) x.picks := ⟨_, rfl⟩
  rw [← hkp] at hle
  have hlk : ((M.file j).data.take kp.1.toNat).length = kp.1.toNat := by rw [List.length_take]; omega
  have hx : rd.crashStep M x (s, j) = ⟨x.files ++ [⟨(M.file j).data.take kp.1.toNat, kp.1.toNat⟩], x.names ++ [(s, x.files.length)], kp.2⟩ := by rw [hkp]; rfl
  have hy : dk.leftStep D N y s = ⟨fun t => if t = s then some ((M.file j).data.take kp.1.toNat) else y.by_ t, y.used + kp.1, kp.2⟩ := by
    unfold dk.leftStep
    rw [hN]
    dsimp only
    rw [hf, h.picks, ← hkp]
  rw [hx, hy]
  refine ⟨?_, ?_, rfl, ?_, fun t => ?_, fun v hv2 => ?_⟩
  · dsimp only
    rw [List.length_append, List.length_append, h.len]
    rfl
  · dsimp only
    rw [List.map_append, List.zipIdx_append, h.names, h.len]
    simp
  · dsimp only
    rw [rd.sum_append, h.used]
    have e1 : rd.sum (fun i => ((rd.at_ (x.files ++ [⟨(M.file j).data.take kp.1.toNat, kp.1.toNat⟩]) i).data.length : Int)) x.names = rd.sum (fun i => ((rd.at_ x.files i).data.length : Int)) x.names := rd.sum_congr fun z hz => by rw [rd.at_old (hlt z hz)]
    have e2 : rd.sum (fun i => ((rd.at_ (x.files ++ [⟨(M.file j).data.take kp.1.toNat, kp.1.toNat⟩]) i).data.length : Int)) [(s, x.files.length)] = kp.1 := by
      unfold rd.sum
      simp only [List.map_cons, List.map_nil, List.sum_cons, List.sum_nil]
      rw [rd.at_new]
      dsimp only
      rw [hlk]
      omega
    rw [e1, e2]
  · dsimp only
    rw [rd.look_append]
    by_cases e : t = s
    · rw [if_pos e, e, hlook]
      dsimp only
      show _ = Option.map _ (if s = s then some x.files.length else none)
      rw [if_pos rfl, Option.map_some, rd.at_new]
    · rw [if_neg e, h.by_ t]
      cases e2 : rd.look x.names t with
      | none =>
        dsimp only
        show _ = Option.map _ (if s = t then some x.files.length else none)
        rw [if_neg (fun q => e q.symm)]
        rfl
      | some i =>
        dsimp only
        rw [Option.map_some, Option.map_some, rd.at_old (hlt _ (rd.look_mem e2))]
  · rcases List.mem_append.1 hv2 with hv2 | hv2
    · exact h.ok v hv2
    · rw [List.mem_singleton.1 hv2]
      exact ⟨hlk.symm, by dsimp only; rw [hlk]; omega, fun b hb => hv.2.2 b (List.mem_of_mem_take hb)⟩
theorem rd.both {D : Dsk} {M : RDisk} {ι : Nat → Nat} {N : DNames} {l : RNames} {ps : List Int} (hr : rd.Rises l) (hN : ∀ s, N s = (rd.look l s).map ι) (hf : ∀ i, i < M.files.length → D.file (ι i) = M.file i) (hg : rd.Good l M.files.length) (hw : M.WF) :
    rd.Both (rd.crashAll M l ps) (dk.left D N (l.map Prod.fst) ps) l := by
  have key : ∀ k, k ≤ l.length → rd.Both (rd.crashAll M (l.take k) ps) (dk.left D N ((l.take k).map Prod.fst) ps) (l.take k) := by
    intro k
    induction k with
    | zero =>
      intro _
      rw [List.take_zero]
      exact ⟨rfl, rfl, rfl, rfl, fun _ => rfl, fun v hv => by cases hv⟩
    | succ k ih =>
      intro hk
      have hk' : k < l.length := by omega
      have ht := List.take_succ_eq_append_getElem hk'
      rw [ht, rd.crashAll_snoc, List.map_append, List.map_cons, List.map_nil, dk.left_snoc]
      have hm : l[k] ∈ l := List.getElem_mem hk'
      have hgk := hg _ hm
      refine (ih (by omega)).step (ι := ι) ?_ (hf _ hgk.1) (hw.short _ (RDisk.file_mem hgk.1)) ?_
      · rw [hN, rd.mem_look hr (show (l[k].1, l[k].2) ∈ l from hm)]
        rfl
      · rw [← ht]
        exact hr.sublist (List.take_sublist _ _)
  have := key l.length (Nat.le_refl _)
  rw [List.take_length] at this
  exact this
theorem barr_lt (x y : List UInt8) : bl.lt (barr x) (barr y) = true ↔ x < y := by
  have hl : ∀ z : List UInt8, (barr z).toList = z := fun z => by rw [ByteArray.toList_eq]; simp [barr]
  rw [bl.lt_iff, hl, hl]
theorem dk.Rise.rises {ks : List ByteArray} (h : dk.Rise ks) : ks.Pairwise fun s t => bl.lt s t = true := by
  obtain ⟨ss, rfl, hnd⟩ := h
  rw [List.pairwise_map]
  have hs : (ss.mergeSort fun x y => decide (x ≤ y)).Pairwise fun x y => decide (x ≤ y) = true :=
    List.pairwise_mergeSort (le := fun x y : List UInt8 => decide (x ≤ y)) (fun a b c h1 h2 => decide_eq_true (List.le_trans (of_decide_eq_true h1) (of_decide_eq_true h2))) (fun a b => by
      rcases List.le_total a b with h | h
      · simp [h]
      · simp [h]) ss
  have hn : (ss.mergeSort fun x y => decide (x ≤ y)).Pairwise fun x y => x ≠ y := (List.mergeSort_perm ss _).symm.nodup hnd
  refine (hs.and hn).imp fun {a b} h => ?_
  rw [barr_lt]
  rw [← Decidable.not_not (p := a < b)]
  intro hlt
  exact h.2 (List.le_antisymm (of_decide_eq_true h.1) (List.not_lt.1 hlt))
theorem bl.rising_eq : ∀ (a b : List ByteArray), a.Pairwise (fun x y => bl.lt x y = true) → b.Pairwise (fun x y => bl.lt x y = true) → (∀ s, s ∈ a ↔ s ∈ b) → a = b
  | [], [], _, _, _ => rfl
  | [], y :: b, _, _, h => absurd ((h y).2 (by simp)) (by simp)
  | x :: a, [], _, _, h => absurd ((h x).1 (by simp)) (by simp)
  | x :: a, y :: b, ha, hb, h => by
    have ha' := List.pairwise_cons.1 ha
    have hb' := List.pairwise_cons.1 hb
    have e : x = y := by
      have h1 := (h x).1 (by simp)
      have h2 := (h y).2 (by simp)
      rcases List.mem_cons.1 h1 with e | h1
      · exact e
      · rcases List.mem_cons.1 h2 with e | h2
        · exact e.symm
        · have := bl.trans (ha'.1 y h2) (hb'.1 x h1)
          rw [bl.irrefl] at this
          cases this
    subst e
    refine congrArg (x :: ·) (bl.rising_eq a b ha'.2 hb'.2 fun s => ⟨fun hs => ?_, fun hs => ?_⟩)
    · rcases List.mem_cons.1 ((h s).1 (List.mem_cons_of_mem _ hs)) with rfl | h1
      · exact absurd rfl (bl.ne (ha'.1 s hs))
      · exact h1
    · rcases List.mem_cons.1 ((h s).2 (List.mem_cons_of_mem _ hs)) with rfl | h1
      · exact absurd rfl (bl.ne (hb'.1 s hs))
      · exact h1
/-- The keys of names, in rising order, are the names. -/
theorem rd.keys {l : RNames} {N : DNames} {ι : Nat → Nat} {n : Nat} {ks : List ByteArray} (hr : rd.Rises l) (hN : ∀ s, N s = (rd.look l s).map ι) (hg : rd.Good l n) (hk : dk.Keys (fun s => (N s).map dk.ptr) ks) (hs : ks.Pairwise fun s t => bl.lt s t = true) : ks = l.map Prod.fst := by
  refine bl.rising_eq _ _ hs ((rd.rises_iff l).1 hr) fun s => ?_
  rw [hk.2 s]
  show s.size ≤ maxLen ∧ ((N s).map dk.ptr).isSome = true ↔ _
  rw [hN s]
  constructor
  · rintro ⟨-, h⟩
    cases e : rd.look l s with
    | none => rw [e] at h; cases h
    | some i => exact List.mem_map.2 ⟨_, rd.look_mem e, rfl⟩
  · intro h
    obtain ⟨x, hx, rfl⟩ := List.mem_map.1 h
    refine ⟨dk.ok_le (hg x hx).2, ?_⟩
    rw [rd.mem_look hr (show (x.1, x.2) ∈ l from hx)]
    rfl
/-- A crash: what the program's leaves says what this one leaves. -/
theorem Sim.crash {D D' : Dsk} {M : RDisk} {ι : Nat → Nat} (h : Sim D M ι) (hw : M.WF) {ps : List Int} {ks : List ByteArray} (hk : dk.Keys (fun s => (D.kept ps s).map dk.ptr) ks) (hri : dk.Rise ks) (hh : dk.Holds D' D.room (dk.left D (D.kept ps) ks (D.rest ps))) :
    (∃ κ, Sim D' (M.crash ps) κ ∧ ∀ i, i < (M.crash ps).files.length → D'.Has (κ i)) ∧ ks.length = (M.keptN ps).length ∧ (M.crash ps).now = (((M.keptN ps).map Prod.fst).zipIdx) ∧ rd.Rises (M.crash ps).now ∧ rd.Good (M.crash ps).now (M.crash ps).files.length ∧ ((M.crash ps).now.map Prod.snd).Nodup ∧ (∀ v ∈ (M.crash ps).files, v.safe = v.data.length ∧ v.data.length ≤ 1099511627776 ∧ ∀ b ∈ v.data, b < 256) ∧ (M.crash ps).files.length = (M.keptN ps).length := by
  have hsi : D.since.length = M.acts.length := by rw [h.since, List.length_map]
  have hkept : ∀ s, D.kept ps s = (rd.look (M.keptN ps) s).map ι := fun s => by
    unfold Dsk.kept RDisk.keptN
    rw [hsi, h.since, ← List.map_take]
    exact rd.run (fun a ha => hw.acts a (List.mem_of_mem_take ha)) h.safe s
  have hrest : D.rest ps = M.restP ps := by unfold Dsk.rest RDisk.restP; rw [hsi]
  have hr : rd.Rises (M.keptN ps) := rd.rises_all hw.rises
  have hg : rd.Good (M.keptN ps) M.files.length := rd.good_all hw.goods fun a ha => hw.acts a (List.mem_of_mem_take ha)
  have hks := rd.keys hr hkept hg hk hri.rises
  subst hks
  rw [hrest] at hh
  have hb := rd.both (ps := M.restP ps) hr hkept h.file hg hw
  obtain ⟨x, hx⟩ : ∃ x, x = rd.crashAll M (M.keptN ps) (M.restP ps) := ⟨_, rfl⟩
  have hM : M.crash ps = ⟨M.room, x.files, x.names, x.names, [], -1, false, 0⟩ := by rw [hx]; rfl
  rw [← hx] at hb
  rw [hM]
  obtain ⟨p1, p2, p3, p4, p5⟩ := hh.plain
  have hfst : x.names.map Prod.fst = (M.keptN ps).map Prod.fst := by rw [hb.names, List.zipIdx_map_fst]
  have hxr : rd.Rises x.names := (rd.rises_iff _).2 (by rw [hfst]; exact (rd.rises_iff _).1 hr)
  have hmem : ∀ z ∈ x.names, ((M.keptN ps).map Prod.fst)[z.2]? = some z.1 := fun z hz => by
    rw [hb.names, List.mem_zipIdx_iff_getElem?] at hz
    exact hz
  have hlt : ∀ z ∈ x.names, z.2 < x.files.length := fun z hz => by
    have := (List.getElem?_eq_some_iff.1 (hmem z hz)).1
    rw [List.length_map] at this
    rw [hb.len]
    exact this
  have hgood : rd.Good x.names x.files.length := fun z hz => by
    refine ⟨hlt z hz, ?_⟩
    obtain ⟨u, hu, e⟩ := List.mem_map.1 (List.mem_of_getElem? (hmem z hz))
    rw [← e]
    exact (hg u hu).2
  -- what the program's names lead to
  have hsome : ∀ s i, rd.look x.names s = some i → ∃ f, D'.now s = some f ∧ D'.file f = rd.at_ x.files i := fun s i hi => by
    have hby := hb.by_ s
    rw [hi, Option.map_some] at hby
    have hii := hlt _ (rd.look_mem hi)
    dsimp only at hii
    have hok := hb.ok (rd.at_ x.files i) (by
      unfold rd.at_
      rw [List.getD_eq_getElem?_getD, List.getElem?_eq_getElem hii]
      exact List.getElem_mem hii)
    rcases hh.file s with h1 | ⟨f, b, h1, h2, h3⟩
    · rw [hby] at h1
      cases h1.1
    · rw [hby] at h1
      have hbe : (rd.at_ x.files i).data = b := by simpa using h1
      subst hbe
      refine ⟨f, h2, ?_⟩
      rw [h3, ← hok.1]
  have hnone : ∀ s, rd.look x.names s = none → D'.now s = Option.none := fun s hi => by
    have hby := hb.by_ s
    rw [hi] at hby
    rcases hh.file s with h1 | ⟨f, b, h1, h2, h3⟩
    · exact h1.2
    · rw [hby] at h1
      cases h1
  obtain ⟨κ, hκ⟩ : ∃ κ : Nat → Nat, κ = fun i => (D'.now (((M.keptN ps).map Prod.fst).getD i dk.no)).getD 0 := ⟨_, rfl⟩
  have hκs : ∀ s i, rd.look x.names s = some i → D'.now s = some (κ i) := fun s i hi => by
    obtain ⟨f, h1, -⟩ := hsome s i hi
    have h2 := hmem _ (rd.look_mem hi)
    dsimp only at h2
    rw [hκ]
    dsimp only
    rw [List.getD_eq_getElem?_getD, h2, Option.getD_some, h1]
    rfl
  have hlook : ∀ i, i < x.files.length → ∃ s, rd.look x.names s = some i := fun i hi => by
    rw [hb.len] at hi
    obtain ⟨s, hs⟩ : ∃ s, ((M.keptN ps).map Prod.fst)[i]? = some s := ⟨_, List.getElem?_eq_getElem (by rw [List.length_map]; exact hi)⟩
    refine ⟨s, rd.mem_look hxr ?_⟩
    rw [hb.names, List.mem_zipIdx_iff_getElem?]
    exact hs
  refine ⟨⟨κ, ⟨?_, ?_, p1, p2, .inl ⟨p3, rfl⟩, fun s => ?_, fun s => ?_, p5, fun i hi => ?_, fun i j hi hj e => ?_⟩, fun i hi => ?_⟩, by rw [List.length_map], hb.names, hxr, hgood, ?_, hb.ok, hb.len⟩
  · rw [hh.room]; exact h.room
  · rw [hh.used, hb.used]
    rfl
  · dsimp only
    cases hi : rd.look x.names s with
    | none => exact hnone s hi
    | some i => exact hκs s i hi
  · dsimp only
    rw [hh.same]
    cases hi : rd.look x.names s with
    | none => exact hnone s hi
    | some i => exact hκs s i hi
  · obtain ⟨s, hs⟩ := hlook i hi
    obtain ⟨f, h1, h2⟩ := hsome s i hs
    have h3 := hκs s i hs
    rw [h1] at h3
    have e : f = κ i := by simpa using h3
    rw [← e]
    exact h2
  · obtain ⟨s, hs⟩ := hlook i hi
    obtain ⟨t, ht⟩ := hlook j hj
    have h1 := hκs s i hs
    have h2 := hκs t j ht
    rw [← e] at h2
    have hst := hh.inj s t _ h1 h2
    subst hst
    rw [hs] at ht
    simpa using ht
  · obtain ⟨s, hs⟩ := hlook i hi
    exact .inl ⟨s, hκs s i hs⟩
  · dsimp only
    rw [hb.names, List.zipIdx_map_snd]
    exact List.nodup_range'
end Go.Proofs.Ythffkbcjidbdaaa

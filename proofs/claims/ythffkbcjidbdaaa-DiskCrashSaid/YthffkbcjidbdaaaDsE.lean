/- What was made safe stands, whatever is done with other files, and behind a crash (pure). -/
import Derived.Test.YthffkbcjidbdaaaDsX
import Derived.Test.YthffkbcjidbdaaaDmG
namespace Go.Proofs.Ythffkbcjidbdaaa
open Go.RowKit Go.Maps
set_option maxRecDepth 100000

def sf.S : ByteArray := ByteArray.mk #[115, 97, 102, 101]
theorem sf.ok : dk.okName sf.S = true := by decide
/-- The file safe stands with these bytes; no act that is not safe is of it; files have at most T bytes, names and acts are at most N. -/
structure SafeIn (M : RDisk) (b : List Nat) (T N : Nat) : Prop where
  room : M.room = 1048576
  now : rd.look M.now sf.S = some 0
  safe : rd.look M.safe sf.S = some 0
  file : M.file 0 = ⟨b, b.length⟩
  acts : ∀ a ∈ M.acts, a.a ≠ sf.S ∧ (a.kind = 2 → a.b ≠ sf.S)
  short : ∀ i, (M.file i).data.length ≤ T
  few : M.now.length ≤ N ∧ M.safe.length ≤ N ∧ M.acts.length ≤ N
theorem SafeIn.acted {M : RDisk} {b : List Nat} {T N : Nat} (h : SafeIn M b T N) : SafeIn M.acted b T N := ⟨h.room, h.now, h.safe, h.file, h.acts, h.short, h.few⟩
theorem SafeIn.mono {M : RDisk} {b : List Nat} {T N T' N' : Nat} (h : SafeIn M b T N) (hT : T ≤ T') (hN : N ≤ N') : SafeIn M b T' N' :=
  ⟨h.room, h.now, h.safe, h.file, h.acts, fun i => Nat.le_trans (h.short i) hT, Nat.le_trans h.few.1 hN, Nat.le_trans h.few.2.1 hN, Nat.le_trans h.few.2.2 hN⟩
theorem SafeIn.set {M : RDisk} {b : List Nat} {T N : Nat} (h : SafeIn M b T N) {i : Nat} (hi : i < M.files.length) (h0 : i ≠ 0) {v : FileV} (hv : v.data.length ≤ T) : SafeIn (M.set i v) b T N := by
  refine ⟨h.room, h.now, h.safe, ?_, h.acts, fun j => ?_, h.few⟩
  · rw [RDisk.set_file hi, if_neg (Ne.symm h0)]
    exact h.file
  · rw [RDisk.set_file hi]
    split
    · exact hv
    · exact h.short j
theorem sf.apply {l : RNames} {a : RAct} (h1 : a.a ≠ sf.S) (h2 : a.kind = 2 → a.b ≠ sf.S) : rd.look (rd.apply l a) sf.S = rd.look l sf.S := by
  unfold rd.apply
  split
  · rw [rd.look_with, if_neg (Ne.symm h1)]
  · split
    · rename_i h
      rw [rd.look_with, if_neg (Ne.symm (h2 h)), rd.look_without, if_neg (Ne.symm h1)]
    · rw [rd.look_without, if_neg (Ne.symm h1)]
theorem SafeIn.lead {M : RDisk} {b : List Nat} {T N : Nat} (h : SafeIn M b T N) {a : RAct} (h1 : a.a ≠ sf.S) (h2 : a.kind = 2 → a.b ≠ sf.S) : SafeIn (M.lead a) b T (N + 1) := by
  obtain ⟨f1, f2, f3⟩ := h.few
  refine ⟨h.room, (sf.apply h1 h2).trans h.now, h.safe, h.file, fun x hx => ?_, h.short, ?_, Nat.le_succ_of_le f2, ?_⟩
  · have hx : x ∈ M.acts ++ [a] := hx
    rw [List.mem_append, List.mem_singleton] at hx
    rcases hx with hx | rfl
    · exact h.acts x hx
    · exact ⟨h1, h2⟩
  · have := RDisk.lead_now_len M a
    omega
  · show (M.acts ++ [a]).length ≤ _
    rw [List.length_append, List.length_singleton]
    omega
theorem sf.other {M : RDisk} (hw : M.WF) {b : List Nat} {T N : Nat} (h : SafeIn M b T N) {s : ByteArray} (hs : s ≠ sf.S) {i : Nat} (hi : rd.look M.now s = some i) : i ≠ 0 := fun e => by
  subst e
  have := rd.snd_inj hw.nodup (rd.look_mem hi) (rd.look_mem h.now) rfl
  exact hs (congrArg Prod.fst this)
theorem SafeIn.step {M : RDisk} (hw : M.WF) {b : List Nat} {T N : Nat} (h : SafeIn M b T N) {x : DStep} (ha : x.a ≠ sf.S) (ht : x.to_ ≠ sf.S) (hk : x.kind ≠ 7) : SafeIn (M.step x) b (T + x.b.length) (N + 1) := by
  have hA : SafeIn M.acted b (T + x.b.length) (N + 1) := h.acted.mono (Nat.le_add_right _ _) (Nat.le_succ _)
  have hA' : SafeIn M.acted b (T + x.b.length) N := h.acted.mono (Nat.le_add_right _ _) (Nat.le_refl _)
  unfold RDisk.step
  by_cases h1 : x.kind = 1
  · rw [if_pos h1]
    unfold RDisk.app
    split
    · exact hA
    · split
      · rename_i i hi
        exact hA.set (M := M.acted) (show i < M.files.length from hw.lt hi) (sf.other hw h ha hi) (by dsimp only; rw [List.length_append]; have := h.short i; omega)
      · have hadd : SafeIn (M.acted.add ⟨x.b, 0⟩) b (T + x.b.length) N := by
          have h0 : 0 < M.acted.files.length := hw.lt h.now
          refine ⟨h.room, h.now, h.safe, (RDisk.add_file h0).trans h.file, h.acts, fun i => ?_, h.few⟩
          by_cases hi : i < M.acted.files.length
          · rw [RDisk.add_file hi]
            exact Nat.le_trans (h.short i) (Nat.le_add_right _ _)
          · by_cases he : i = M.acted.files.length
            · rw [he, RDisk.add_new]
              dsimp only
              omega
            · have : (M.acted.add ⟨x.b, 0⟩).file i = rd.vd := by
                unfold RDisk.file RDisk.add
                rw [List.getD_eq_getElem?_getD, List.getElem?_eq_none (by rw [List.length_append, List.length_singleton]; omega)]
                rfl
              rw [this]
              exact Nat.zero_le _
        exact hadd.lead ha fun e => by cases e
  rw [if_neg h1]
  by_cases h2 : x.kind = 2
  · rw [if_pos h2]
    unfold RDisk.trunc
    split
    · exact hA
    · split
      · rename_i i hi
        exact hA.set (M := M.acted) (show i < M.files.length from hw.lt hi) (sf.other hw h ha hi) (by dsimp only; rw [List.length_take]; have := h.short i; omega)
      · exact hA
  rw [if_neg h2]
  by_cases h3 : x.kind = 3
  · rw [if_pos h3]
    unfold RDisk.sync
    split
    · exact hA
    · split
      · rename_i i hi
        exact hA.set (M := M.acted) (show i < M.files.length from hw.lt hi) (sf.other hw h ha hi) (by dsimp only; have := h.short i; omega)
      · exact hA
  rw [if_neg h3]
  by_cases h4 : x.kind = 4
  · rw [if_pos h4]
    unfold RDisk.ren
    split
    · exact hA
    · split
      · exact hA'.lead ha fun _ => ht
      · exact hA
  rw [if_neg h4]
  by_cases h5 : x.kind = 5
  · rw [if_pos h5]
    unfold RDisk.rem
    split
    · exact hA
    · exact hA'.lead ha fun e => by cases e
  rw [if_neg h5]
  by_cases h6 : x.kind = 6
  · rw [if_pos h6]
    unfold RDisk.dir
    split
    · exact hA
    · exact ⟨h.room, h.now, h.now, h.file, fun a ha => (by cases ha), hA.short, Nat.le_succ_of_le h.few.1, Nat.le_succ_of_le h.few.1, Nat.zero_le _⟩
  rw [if_neg h6, if_neg hk]
  exact h.mono (Nat.le_add_right _ _) (Nat.le_succ _)

theorem sf.run {xs : List RAct} : ∀ {l : RNames}, (∀ a ∈ xs, a.a ≠ sf.S ∧ (a.kind = 2 → a.b ≠ sf.S)) → rd.look (rd.applyAll l xs) sf.S = rd.look l sf.S ∧ (rd.applyAll l xs).length ≤ l.length + xs.length := by
  induction xs with
  | nil => intro l _; exact ⟨rfl, Nat.le_refl _⟩
  | cons a xs ih =>
    intro l h
    obtain ⟨i1, i2⟩ := ih (l := rd.apply l a) fun x hx => h x (List.mem_cons_of_mem _ hx)
    have ha := h a (by simp)
    refine ⟨i1.trans (sf.apply ha.1 ha.2), ?_⟩
    have := rd.apply_len l a
    show (rd.applyAll (rd.apply l a) xs).length ≤ _
    rw [List.length_cons]
    omega
/-- What a crash has put down so far has the file. -/
def sf.Has (b : List Nat) (x : RLeft) : Prop := ∃ i, rd.look x.names sf.S = some i ∧ i < x.files.length ∧ (rd.at_ x.files i).data = b
theorem sf.keeps {M : RDisk} {b : List Nat} : ∀ (l : RNames) (x : RLeft), sf.Has b x → sf.Has b (l.foldl (rd.crashStep M) x) := by
  intro l
  induction l with
  | nil => intro x h; exact h
  | cons nm l ih =>
    intro x ⟨i, h1, h2, h3⟩
    refine ih _ ⟨i, ?_, ?_, ?_⟩
    · show rd.look (x.names ++ [(nm.1, x.files.length)]) sf.S = some i
      rw [rd.look_append, h1]
    · show i < (x.files ++ [_]).length
      rw [List.length_append]
      omega
    · show (rd.at_ (x.files ++ [_]) i).data = b
      rw [rd.at_old h2]
      exact h3
theorem sf.gets {M : RDisk} {b : List Nat} (hf : M.file 0 = ⟨b, b.length⟩) : ∀ (l : RNames) (x : RLeft), rd.look x.names sf.S = none → rd.look l sf.S = some 0 → sf.Has b (l.foldl (rd.crashStep M) x) := by
  intro l
  induction l with
  | nil => intro x _ h; cases h
  | cons nm l ih =>
    intro x h1 h2
    have h2 : (if nm.1 = sf.S then some nm.2 else rd.look l sf.S) = some 0 := h2
    have hnx : rd.look (x.names ++ [(nm.1, x.files.length)]) sf.S = if nm.1 = sf.S then some x.files.length else none := by
      rw [rd.look_append, h1]
      rfl
    by_cases e : nm.1 = sf.S
    · rw [if_pos e] at h2 hnx
      obtain ⟨s, f⟩ := nm
      have h2 : f = 0 := by simpa using h2
      subst h2
      refine sf.keeps l _ ⟨x.files.length, hnx, ?_, ?_⟩
      · show x.files.length < (x.files ++ [_]).length
        rw [List.length_append, List.length_singleton]
        omega
      · show (rd.at_ (x.files ++ [_]) x.files.length).data = b
        rw [rd.at_new]
        dsimp only
        rw [hf, dk.keepOf_all]
        show b.take (b.length : Int).toNat = b
        rw [Int.toNat_natCast, List.take_length]
    · rw [if_neg e] at h2 hnx
      exact ih _ hnx h2
theorem sf.lens {M : RDisk} {T : Nat} (hf : ∀ i, (M.file i).data.length ≤ T) : ∀ (l : RNames) (x : RLeft), (∀ v ∈ x.files, v.data.length ≤ T) → (∀ v ∈ (l.foldl (rd.crashStep M) x).files, v.data.length ≤ T) ∧ (l.foldl (rd.crashStep M) x).names.length = x.names.length + l.length := by
  intro l
  induction l with
  | nil => intro x h; exact ⟨h, rfl⟩
  | cons nm l ih =>
    intro x h
    obtain ⟨i1, i2⟩ := ih (rd.crashStep M x nm) fun v hv => by
      have hv : v ∈ x.files ++ [_] := hv
      rw [List.mem_append, List.mem_singleton] at hv
      rcases hv with hv | rfl
      · exact h v hv
      · dsimp only
        rw [List.length_take]
        have := hf nm.2
        omega
    refine ⟨i1, i2.trans ?_⟩
    show (x.names ++ [_]).length + _ = _
    rw [List.length_append, List.length_singleton, List.length_cons]
    omega
theorem sf.crash {M : RDisk} {b : List Nat} {T N : Nat} (h : SafeIn M b T N) (hT : T ≤ 1300) (hN : N ≤ 100) (ps : List Int) : (M.crash ps).readE sf.S = 0 ∧ (M.crash ps).bytes sf.S = b ∧ (M.crash ps).appE sf.S [120] = 0 := by
  obtain ⟨f1, f2, f3⟩ := h.few
  obtain ⟨r1, r2⟩ := sf.run (xs := M.acts.take (dk.pick ps (M.acts.length : Int)).1.toNat) (l := M.safe) fun a ha => h.acts a (List.mem_of_mem_take ha)
  have hk : rd.look (M.keptN ps) sf.S = some 0 := r1.trans h.safe
  have hkl : (M.keptN ps).length ≤ N + N := by
    have : (M.acts.take (dk.pick ps (M.acts.length : Int)).1.toNat).length ≤ M.acts.length := by rw [List.length_take]; exact Nat.min_le_right _ _
    have e : (M.keptN ps).length ≤ M.safe.length + (M.acts.take (dk.pick ps (M.acts.length : Int)).1.toNat).length := r2
    omega
  obtain ⟨i, g1, g2, g3⟩ := sf.gets h.file (M.keptN ps) ⟨[], [], M.restP ps⟩ rfl hk
  obtain ⟨l1, l2⟩ := sf.lens h.short (M.keptN ps) ⟨[], [], M.restP ps⟩ fun v hv => by cases hv
  have hlook : rd.look (M.crash ps).now sf.S = some i := g1
  have hfile : (M.crash ps).file i = rd.at_ (rd.crashAll M (M.keptN ps) (M.restP ps)).files i := rfl
  have hnl : (M.crash ps).now.length ≤ N + N := by
    have e : (M.crash ps).now.length = 0 + (M.keptN ps).length := l2
    omega
  have hlen : ∀ j, (M.crash ps).len j ≤ 1300 := fun j => by
    have e : (M.crash ps).len j = (((rd.crashAll M (M.keptN ps) (M.restP ps)).files.getD j rd.vd).data.length : Int) := rfl
    rw [e, List.getD_eq_getElem?_getD]
    by_cases hj : j < (rd.crashAll M (M.keptN ps) (M.restP ps)).files.length
    · rw [List.getElem?_eq_getElem hj]
      have := l1 _ (List.getElem_mem hj)
      show (_ : Int) ≤ 1300
      have e2 : (((rd.crashAll M (M.keptN ps) (M.restP ps)).files)[j]).data.length ≤ T := this
      simp only [Option.getD_some]
      omega
    · rw [List.getElem?_eq_none (by omega)]
      show ((0 : Nat) : Int) ≤ 1300
      omega
  have hu : (M.crash ps).used ≤ ((M.crash ps).now.length : Int) * 1300 := rd.sum_bound fun x _ => hlen x.2
  refine ⟨by unfold RDisk.readE; rw [hlook], by unfold RDisk.bytes; rw [hlook]; exact (congrArg FileV.data hfile).trans g3, ?_⟩
  exact (RDisk.app_old (M := M.crash ps) rfl rfl sf.ok hlook (by
    rw [show (M.crash ps).room = 1048576 from h.room]
    simp only [List.length_singleton]
    omega)).1
/-- What stands before the power is cut. -/
def sf.M1 (b : List Nat) : RDisk := ⟨1048576, [⟨b, 0⟩], [(sf.S, 0)], [], [⟨1, sf.S, dk.no, 0⟩], -1, false, 1⟩
def sf.M2 (b : List Nat) : RDisk := ⟨1048576, [⟨b, b.length⟩], [(sf.S, 0)], [], [⟨1, sf.S, dk.no, 0⟩], -1, false, 2⟩
def sf.M3 (b : List Nat) : RDisk := ⟨1048576, [⟨b, b.length⟩], [(sf.S, 0)], [(sf.S, 0)], [], -1, false, 3⟩
theorem sf.step1 (a : List Nat) (ha : a.length ≤ 300) : (RDisk.new 1048576).appE sf.S a = 0 ∧ (RDisk.new 1048576).app sf.S a = sf.M1 a := by
  obtain ⟨h1, h2⟩ := RDisk.app_new (M := RDisk.new 1048576) (s := sf.S) (b := a) rfl rfl sf.ok rfl (by show 0 + _ ≤ (1048576 : Int); omega)
  exact ⟨h1, h2⟩
theorem sf.step2 (a : List Nat) : (sf.M1 a).syncE sf.S = 0 ∧ (sf.M1 a).sync sf.S = sf.M2 a := RDisk.sync_old (M := sf.M1 a) (i := 0) rfl rfl sf.ok (show rd.look [(sf.S, 0)] sf.S = some 0 by decide)
theorem sf.step3 (a : List Nat) : (sf.M2 a).actE [] = 0 ∧ (sf.M2 a).dir = sf.M3 a := RDisk.dir_on (M := sf.M2 a) rfl rfl
theorem sf.begin (a : List Nat) (ha : a.length ≤ 300) (n : Int) : SafeIn ((sf.M3 a).cutAt n) a 300 1 := by
  refine ⟨rfl, show rd.look [(sf.S, 0)] sf.S = some 0 by decide, show rd.look [(sf.S, 0)] sf.S = some 0 by decide, rfl, fun x hx => (by cases hx), fun i => ?_, Nat.le_refl _, Nat.le_refl _, Nat.zero_le _⟩
  match i with
  | 0 => exact ha
  | i + 1 => exact Nat.zero_le _
end Go.Proofs.Ythffkbcjidbdaaa

/- The program's disk, in memory, as the disk in plain words: what each call answers and leaves. -/
import Derived.Test.YthffkbcjidbdaaaDmE
namespace Go.Proofs.Ythffkbcjidbdaaa
open Go.RowKit Go.Maps
set_option maxRecDepth 100000

theorem RDisk.lead_now_len (M : RDisk) (a : RAct) : (M.lead a).now.length ≤ M.now.length + 1 := rd.apply_len M.now a
theorem RDisk.crash_wf {D D' : Dsk} {M : RDisk} {ι : Nat → Nat} (h : Sim D M ι) (hw : M.WF) {ps : List Int} {ks : List ByteArray} (hk : dk.Keys (fun s => (D.kept ps s).map dk.ptr) ks) (hri : dk.Rise ks) (hh : dk.Holds D' D.room (dk.left D (D.kept ps) ks (D.rest ps))) : (M.crash ps).WF := by
  obtain ⟨-, -, h3, h4, h5, h6, h7, -⟩ := h.crash hw hk hri hh
  refine ⟨h4, h4, h6, h5, h5, fun a ha => (by cases ha), rfl, fun v hv => ?_, hw.fit, by show (-1 : Int) ≤ -1; decide, by show (-1 : Int) ≤ 9223372036854775807; decide⟩
  obtain ⟨q1, q2, q3⟩ := h7 v hv
  exact ⟨by omega, q2, q3⟩
theorem DskIn.has_lt {w : World} {p : Nat} {D : Dsk} {F : Nat → Prop} {m f : Nat} (h : DskIn w p D F m) (hf : D.Has f) : f < w.heap.size := by
  obtain ⟨S, bn, bs, sv, dat, h⟩ := h
  exact (h.file f (h.has f hf)).1.lt
theorem DskIn.up {w : World} {p : Nat} {D : Dsk} {F : Nat → Prop} {m : Nat} (h : DskIn w p D F m) : p < w.heap.size ∧ F p ∧ ∀ k, F k → k < w.heap.size := by
  obtain ⟨S, bn, bs, sv, dat, h⟩ := h
  exact ⟨h.blk.lt, h.foot.1, h.lt⟩
theorem rd.sum_bound {g : Nat → Int} {l : RNames} {b : Int} (h : ∀ x ∈ l, g x.2 ≤ b) : rd.sum g l ≤ (l.length : Int) * b := by
  induction l with
  | nil => unfold rd.sum; simp
  | cons x l ih =>
    rw [rd.sum_cons, List.length_cons]
    have h1 := h x (by simp)
    have h2 := ih fun y hy => h y (List.mem_cons_of_mem _ hy)
    push_cast
    rw [Int.add_mul]
    omega
theorem RDisk.WF.used_le {M : RDisk} (h : M.WF) : M.used ≤ (M.now.length : Int) * 1099511627776 := rd.sum_bound fun x hx => by
  have := (h.short _ (RDisk.file_mem (h.good x hx).1)).2.1
  unfold RDisk.len
  omega
/-- The program's disk at p says M; F its blocks, n no fewer than its names and acts. -/
def PDisk (w : World) (p : Nat) (M : RDisk) (F : Nat → Prop) (n : Nat) : Prop :=
  ∃ D ι m, DskIn w p D F m ∧ Sim D M ι ∧ M.WF ∧ (∀ i, i < M.files.length → ι i < w.heap.size) ∧ m + M.acts.length ≤ n ∧ M.now.length + M.acts.length ≤ n ∧ M.safe.length + M.acts.length ≤ n
theorem PDisk.keep {w w' : World} {p : Nat} {M : RDisk} {F P : Nat → Prop} {n : Nat} (h : PDisk w p M F n) (hc : Chg w w' P) (hp : ∀ k, F k → ¬ P k) : PDisk w' p M F n := by
  obtain ⟨D, ι, m, h1, h2, h3, h4, h5⟩ := h
  exact ⟨D, ι, m, h1.keep hc hp, h2, h3, fun i hi => Nat.lt_of_lt_of_le (h4 i hi) hc.size, h5⟩
theorem PDisk.below {w w' : World} {p : Nat} {M : RDisk} {F : Nat → Prop} {n : Nat} (h : PDisk w p M F n) (hb : Below w.heap.size w w') : PDisk w' p M F n := h.keep (chg_of (P := fun _ => False) hb) fun _ _ q => q
theorem PDisk.mono {w : World} {p : Nat} {M : RDisk} {F : Nat → Prop} {n n' : Nat} (h : PDisk w p M F n) (hn : n ≤ n') : PDisk w p M F n' := by
  obtain ⟨D, ι, m, h1, h2, h3, h4, h5, h6, h7⟩ := h
  exact ⟨D, ι, m, h1, h2, h3, h4, by omega, by omega, by omega⟩
theorem PDisk.up {w : World} {p : Nat} {M : RDisk} {F : Nat → Prop} {n : Nat} (h : PDisk w p M F n) : p < w.heap.size ∧ F p ∧ (∀ k, F k → k < w.heap.size) ∧ M.WF := by
  obtain ⟨D, ι, m, h1, h2, h3, h4, h5⟩ := h
  exact ⟨h1.up.1, h1.up.2.1, h1.up.2.2, h3⟩
def RDisk.small (M : RDisk) : Prop := -1000000 ≤ M.ops ∧ M.ops ≤ 1000000
theorem PDisk.new {room : Int} (w : World) (h : 0 ≤ room ∧ room ≤ 1099511627776) : Calls Try.prog 12 #[.int .i64 room] w fun e w' => ∃ p, e = .returned (.tuple #[.pointer (some ⟨p, 0, none⟩), .int .i64 0]) ∧ PDisk w' p (RDisk.new room) (dk.fresh w w') 0 ∧ Below w.heap.size w w' := by
  refine (disk.New_any room w h).mono ?_
  rintro e w' ⟨p, h1, h2, h3⟩
  exact ⟨p, h1, ⟨_, id, 0, h2, Sim.new room, RDisk.new_wf h, fun i hi => absurd hi (Nat.not_lt_zero _), Nat.le_refl _, Nat.le_refl _, Nat.le_refl _⟩, h3⟩
theorem PDisk.append {s : ByteArray} {X : Option Addr} {k c : Nat} {b : List Nat} {p : Nat} {M : RDisk} {F : Nat → Prop} {n : Nat} {w : World} (h : PDisk w p M F n) (hs : s.size ≤ maxLen) (hM : M.small) (hat : At w X k (byteAt b)) (hbl : b.length = k) (hb : ∀ x ∈ b, x < 256) (hX : ∀ g off, X = some ⟨g, off, none⟩ → 0 < k → ¬ F g) (hk : k ≤ 4294967296) (hn : n ≤ 50000) :
    Calls Try.prog 22 #[.pointer (some ⟨p, 0, none⟩), .string s, .slice X k c] w fun e w' => e = .returned (.int .i64 (M.appE s b)) ∧ PDisk w' p (M.app s b) (dk.grow F w w') (n + 2) ∧ Chg w w' F := by
  obtain ⟨D, ι, m, h1, h2, h3, h4, h5, h6, h7⟩ := h
  have hu := h3.used_le
  have hup := M.used_pos
  have hsi : D.since.length = M.acts.length := by rw [h2.since, List.length_map]
  have hbb := (h2.bytes h3 s).1
  refine (disk.App_all s X k c b p D F m w h1 hs (h2.near h3 hM) hat hbl hb hX ⟨by rw [h2.used]; exact hup, by rw [h2.used]; omega, by rw [h2.room]; exact h3.fit.1, by rw [h2.room]; exact h3.fit.2⟩ hk (by rw [hbb]; exact (h3.bytes_le s).1) (by omega) (by omega)).mono ?_
  rintro e w' ⟨g1, ⟨f, g2, g3⟩, g4⟩
  obtain ⟨⟨κ, q1, q2⟩, q3⟩ := h2.app h3 hb h4 g2
  rw [h2.appE] at g1
  have hlen : (M.app s b).acts.length ≤ M.acts.length + 1 ∧ (M.app s b).now.length ≤ M.now.length + 1 ∧ (M.app s b).safe.length = M.safe.length := by
    unfold RDisk.app
    split
    · exact ⟨Nat.le_succ _, Nat.le_succ _, rfl⟩
    · split
      · exact ⟨Nat.le_succ _, Nat.le_succ _, rfl⟩
      · exact ⟨by show (M.acts ++ [_]).length ≤ _; rw [List.length_append]; exact Nat.le_refl _, RDisk.lead_now_len _ _, rfl⟩
  exact ⟨g1, ⟨_, κ, _, g3, q1, q3, fun i hi => (q2 i hi).elim (fun q => Nat.lt_of_lt_of_le q g4.size) fun q => g3.has_lt q, by omega, by omega, by omega⟩, g4⟩
theorem PDisk.truncate {s : ByteArray} {x : Int} {p : Nat} {M : RDisk} {F : Nat → Prop} {n : Nat} {w : World} (h : PDisk w p M F n) (hs : s.size ≤ maxLen) (hM : M.small) (hx : -9223372036854775808 ≤ x ∧ x ≤ 9223372036854775807) (hn : n ≤ 50000) :
    Calls Try.prog 32 #[.pointer (some ⟨p, 0, none⟩), .string s, .int .i64 x] w fun e w' => e = .returned (.int .i64 (M.truncE s x)) ∧ PDisk w' p (M.trunc s x) (dk.grow F w w') n ∧ Chg w w' F := by
  obtain ⟨D, ι, m, h1, h2, h3, h4, h5, h6, h7⟩ := h
  have hu := h3.used_le
  have hup := M.used_pos
  have hbb := (h2.bytes h3 s).1
  refine (disk.Trunc_any s x p D F m w h1 hs (h2.near h3 hM) (by rw [hbb]; exact (h3.bytes_le s).1) hx ⟨by rw [h2.used]; exact hup, by rw [h2.used]; omega⟩).mono ?_
  rintro e w' ⟨g1, g3, g4⟩
  obtain ⟨q1, q2, q3⟩ := h2.trunc h3 s x
  rw [h2.truncE h3] at g1
  have hlen : (M.trunc s x).acts.length = M.acts.length ∧ (M.trunc s x).now.length = M.now.length ∧ (M.trunc s x).safe.length = M.safe.length := by
    unfold RDisk.trunc
    split
    · exact ⟨rfl, rfl, rfl⟩
    · split <;> exact ⟨rfl, rfl, rfl⟩
  exact ⟨g1, ⟨_, ι, _, g3, q1, q2, fun i hi => Nat.lt_of_lt_of_le (h4 i (by omega)) g4.size, by omega, by omega, by omega⟩, g4⟩
theorem PDisk.sync {s : ByteArray} {p : Nat} {M : RDisk} {F : Nat → Prop} {n : Nat} {w : World} (h : PDisk w p M F n) (hs : s.size ≤ maxLen) (hM : M.small) :
    Calls Try.prog 23 #[.pointer (some ⟨p, 0, none⟩), .string s] w fun e w' => e = .returned (.int .i64 (M.syncE s)) ∧ PDisk w' p (M.sync s) (dk.grow F w w') n ∧ Chg w w' F := by
  obtain ⟨D, ι, m, h1, h2, h3, h4, h5, h6, h7⟩ := h
  refine (disk.Sync_any s p D F m w h1 hs (h2.near h3 hM)).mono ?_
  rintro e w' ⟨g1, g3, g4⟩
  obtain ⟨q1, q2, q3⟩ := h2.sync h3 s
  rw [h2.syncE] at g1
  have hlen : (M.sync s).acts.length = M.acts.length ∧ (M.sync s).now.length = M.now.length ∧ (M.sync s).safe.length = M.safe.length := by
    unfold RDisk.sync
    split
    · exact ⟨rfl, rfl, rfl⟩
    · split <;> exact ⟨rfl, rfl, rfl⟩
  exact ⟨g1, ⟨_, ι, _, g3, q1, q2, fun i hi => Nat.lt_of_lt_of_le (h4 i (by omega)) g4.size, by omega, by omega, by omega⟩, g4⟩
theorem PDisk.remove {s : ByteArray} {p : Nat} {M : RDisk} {F : Nat → Prop} {n : Nat} {w : World} (h : PDisk w p M F n) (hs : s.size ≤ maxLen) (hM : M.small) (hn : n ≤ 50000) :
    Calls Try.prog 33 #[.pointer (some ⟨p, 0, none⟩), .string s] w fun e w' => e = .returned (.int .i64 (M.remE s)) ∧ PDisk w' p (M.rem s) (dk.grow F w w') (n + 2) ∧ Chg w w' F := by
  obtain ⟨D, ι, m, h1, h2, h3, h4, h5, h6, h7⟩ := h
  have hu := h3.used_le
  have hup := M.used_pos
  have hbb := (h2.bytes h3 s).1
  have hsi : D.since.length = M.acts.length := by rw [h2.since, List.length_map]
  refine (disk.Remove_any s p D F m w h1 hs (h2.near h3 hM) (by rw [hbb]; exact (h3.bytes_le s).1) ⟨by rw [h2.used]; exact hup, by rw [h2.used]; omega⟩ (by omega) (by omega)).mono ?_
  rintro e w' ⟨g1, g3, g4⟩
  obtain ⟨q1, q2, q3⟩ := h2.rem h3 s
  rw [h2.remE] at g1
  have hlen : (M.rem s).acts.length ≤ M.acts.length + 1 ∧ (M.rem s).now.length ≤ M.now.length + 1 ∧ (M.rem s).safe.length = M.safe.length := by
    unfold RDisk.rem
    split
    · exact ⟨Nat.le_succ _, Nat.le_succ _, rfl⟩
    · exact ⟨by show (M.acts ++ [_]).length ≤ _; rw [List.length_append]; exact Nat.le_refl _, RDisk.lead_now_len _ _, rfl⟩
  exact ⟨g1, ⟨_, ι, _, g3, q1, q2, fun i hi => Nat.lt_of_lt_of_le (h4 i (by omega)) g4.size, by omega, by omega, by omega⟩, g4⟩
theorem PDisk.rename {s t : ByteArray} {p : Nat} {M : RDisk} {F : Nat → Prop} {n : Nat} {w : World} (h : PDisk w p M F n) (hs : s.size ≤ maxLen) (ht : t.size ≤ maxLen) (hM : M.small) (hn : n ≤ 50000) :
    Calls Try.prog 30 #[.pointer (some ⟨p, 0, none⟩), .string s, .string t] w fun e w' => e = .returned (.int .i64 (M.renE s t)) ∧ PDisk w' p (M.ren s t) (dk.grow F w w') (n + 2) ∧ Chg w w' F := by
  obtain ⟨D, ι, m, h1, h2, h3, h4, h5, h6, h7⟩ := h
  have hu := h3.used_le
  have hup := M.used_pos
  have hbb := (h2.bytes h3 t).1
  have hsi : D.since.length = M.acts.length := by rw [h2.since, List.length_map]
  refine (disk.Rename_any s t p D F m w h1 hs ht (h2.near h3 hM) (by rw [hbb]; exact (h3.bytes_le t).1) ⟨by rw [h2.used]; exact hup, by rw [h2.used]; omega⟩ (by omega) (by omega)).mono ?_
  rintro e w' ⟨g1, g3, g4⟩
  obtain ⟨q1, q2, q3⟩ := h2.ren h3 s t
  rw [h2.renE] at g1
  have hlen : (M.ren s t).acts.length ≤ M.acts.length + 1 ∧ (M.ren s t).now.length ≤ M.now.length + 1 ∧ (M.ren s t).safe.length = M.safe.length := by
    unfold RDisk.ren
    split
    · exact ⟨Nat.le_succ _, Nat.le_succ _, rfl⟩
    · split
      · exact ⟨by show (M.acts ++ [_]).length ≤ _; rw [List.length_append]; exact Nat.le_refl _, RDisk.lead_now_len _ _, rfl⟩
      · exact ⟨Nat.le_succ _, Nat.le_succ _, rfl⟩
  exact ⟨g1, ⟨_, ι, _, g3, q1, q2, fun i hi => Nat.lt_of_lt_of_le (h4 i (by omega)) g4.size, by omega, by omega, by omega⟩, g4⟩
theorem Sim.fine {D : Dsk} {M : RDisk} {ι : Nat → Nat} (h : Sim D M ι) (hw : M.WF) : dk.fine D.since := fun a ha => by
  rw [h.since] at ha
  obtain ⟨b, hb, rfl⟩ := List.mem_map.1 ha
  obtain ⟨hk, h1, h2, -⟩ := hw.acts b hb
  unfold rd.toD
  rcases hk with hk | hk | hk
  · rw [if_pos hk]
    exact ⟨Nat.zero_le _, dk.ok_le h1, fun _ q => (by cases q)⟩
  · rw [if_neg (by omega), if_pos hk]
    exact ⟨dk.ok_le h1, dk.ok_le (h2 hk), fun _ q => (by cases q)⟩
  · rw [if_neg (by omega), if_neg (by omega)]
    exact ⟨dk.ok_le h1, Nat.zero_le _, fun q => absurd rfl q⟩
theorem PDisk.syncDir {p : Nat} {M : RDisk} {F : Nat → Prop} {n : Nat} {w : World} (h : PDisk w p M F n) (hM : M.small) (hn : n ≤ 50000) :
    Calls Try.prog 24 #[.pointer (some ⟨p, 0, none⟩)] w fun e w' => e = .returned (.int .i64 (M.actE [])) ∧ PDisk w' p M.dir (dk.grow F w w') n ∧ Chg w w' F := by
  obtain ⟨D, ι, m, h1, h2, h3, h4, h5, h6, h7⟩ := h
  have hsi : D.since.length = M.acts.length := by rw [h2.since, List.length_map]
  refine (disk.SyncDir_all p D F m w h1 (h2.near h3 hM) (h2.fine h3) (by omega) (by omega)).mono ?_
  rintro e w' ⟨g1, g3, g4⟩
  obtain ⟨q1, q2, q3⟩ := h2.dir h3
  rw [h2.actE] at g1 g3
  rw [hsi] at g3
  have hlen : (if M.actE [] = 0 then m + M.acts.length else m) + M.dir.acts.length ≤ n ∧ M.dir.now.length + M.dir.acts.length ≤ n ∧ M.dir.safe.length + M.dir.acts.length ≤ n := by
    unfold RDisk.dir
    by_cases e0 : M.actE [] ≠ 0
    · rw [if_pos e0, if_neg e0]
      exact ⟨h5, h6, h7⟩
    · rw [if_neg e0, if_pos (by simpa using e0)]
      refine ⟨h5, ?_, ?_⟩
      · show M.now.length + 0 ≤ n
        omega
      · show M.now.length + 0 ≤ n
        omega
  exact ⟨g1, ⟨_, ι, _, g3, q1, q2, fun i hi => Nat.lt_of_lt_of_le (h4 i (by omega)) g4.size, hlen⟩, g4⟩
theorem PDisk.cut {x : Int} {p : Nat} {M : RDisk} {F : Nat → Prop} {n : Nat} {w : World} (h : PDisk w p M F n) (hx : -9223372036854775808 ≤ x ∧ x ≤ 9223372036854775807) :
    Calls Try.prog 25 #[.pointer (some ⟨p, 0, none⟩), .int .i64 x] w fun e w' => e = .returned (.tuple #[]) ∧ PDisk w' p (M.cutAt x) F n ∧ Chg w w' F := by
  obtain ⟨D, ι, m, h1, h2, h3, h4, h5⟩ := h
  have hp := h1.up.2.1
  refine (disk.Cut_any x p D F m w h1 hx).mono ?_
  rintro e w' ⟨g1, g3, g4⟩
  obtain ⟨q1, q2, q3⟩ := h2.cutAt h3 hx.2
  exact ⟨g1, ⟨_, ι, m, g3, q1, q2, fun i hi => Nat.lt_of_lt_of_le (h4 i (by omega)) g4.size, h5⟩, g4.mono fun k _ e => by rw [e]; exact hp⟩
theorem PDisk.crash {A : Option Addr} {k c : Nat} {ps : List Int} {p : Nat} {M : RDisk} {F : Nat → Prop} {n : Nat} {w : World} (h : PDisk w p M F n) (hP : dk.Picks w A k c ps) (hn : n ≤ 50000) :
    Calls Try.prog 20 #[.pointer (some ⟨p, 0, none⟩), .slice A k c] w fun e w' => ∃ q, e = .returned (.pointer (some ⟨q, 0, none⟩)) ∧ PDisk w' q (M.crash ps) (dk.fresh w w') n ∧ Below w.heap.size w w' := by
  obtain ⟨D, ι, m, h1, h2, h3, h4, h5, h6, h7⟩ := h
  have hsi : D.since.length = M.acts.length := by rw [h2.since, List.length_map]
  have hshort : D.short := fun f hf => by
    have hall : ∃ i, i < M.files.length ∧ f = ι i := by
      rcases hf with ⟨s, hs⟩ | ⟨s, hs⟩ | ⟨a, ha, hs⟩
      · rw [h2.now] at hs
        cases hi : rd.look M.now s with
        | none => rw [hi] at hs; cases hs
        | some i => rw [hi] at hs; exact ⟨i, h3.lt hi, by simpa using hs.symm⟩
      · rw [h2.safe] at hs
        cases hi : rd.look M.safe s with
        | none => rw [hi] at hs; cases hs
        | some i => rw [hi] at hs; exact ⟨i, (h3.goods _ (rd.look_mem hi)).1, by simpa using hs.symm⟩
      · rw [h2.since] at ha
        obtain ⟨b, hb, rfl⟩ := List.mem_map.1 ha
        obtain ⟨hk, -, -, h4⟩ := h3.acts b hb
        unfold rd.toD at hs
        rcases hk with hk | hk | hk
        · rw [if_pos hk] at hs; exact ⟨b.f, h4 (by omega), by simpa using hs.symm⟩
        · rw [if_neg (by omega), if_pos hk] at hs; exact ⟨b.f, h4 (by omega), by simpa using hs.symm⟩
        · rw [if_neg (by omega), if_neg (by omega)] at hs; cases hs
    obtain ⟨i, hi, rfl⟩ := hall
    rw [h2.file i hi]
    have := h3.short _ (RDisk.file_mem hi)
    exact ⟨this.1, this.2.1⟩
  refine (disk.Crash_any A k c ps p D F m w h1 hP (h2.fine h3) (by omega) (by omega) hshort).mono ?_
  rintro e w' ⟨q, ks, D', g1, g2, g3, g4, g5, g6⟩
  have hwf := RDisk.crash_wf h2 h3 g2 g3 g4
  obtain ⟨⟨κ, c1, c2⟩, c3, c4, -, -, -, -, -⟩ := h2.crash h3 g2 g3 g4
  have hkl : (M.keptN ps).length ≤ n := by
    have h1 : (M.keptN ps).length ≤ M.safe.length + (M.acts.take (dk.pick ps (M.acts.length : Int)).1.toNat).length := rd.all_len
    rw [List.length_take] at h1
    omega
  have hnl : (M.crash ps).now.length ≤ n := by
    rw [c4, List.length_zipIdx, List.length_map]
    exact hkl
  exact ⟨q, g1, ⟨D', κ, _, g5, c1, hwf, fun i hi => g5.has_lt (c2 i hi), by show ks.length + 0 ≤ n; omega, by show (M.crash ps).now.length + 0 ≤ n; omega, by show (M.crash ps).now.length + 0 ≤ n; omega⟩, g6⟩
theorem PDisk.size {s : ByteArray} {p : Nat} {M : RDisk} {F : Nat → Prop} {n : Nat} {w : World} (h : PDisk w p M F n) (hs : s.size ≤ maxLen) :
    Calls Try.prog 19 #[.pointer (some ⟨p, 0, none⟩), .string s] w fun e w' => e = .returned (.int .i64 (M.size s)) ∧ Below w.heap.size w w' ∧ w'.heap.size = w.heap.size := by
  obtain ⟨D, ι, m, h1, h2, h3, -⟩ := h
  have := disk.Size_any s p D F m w h1 hs
  rw [(h2.bytes h3 s).2.2] at this
  exact this
theorem PDisk.read {s : ByteArray} {p : Nat} {M : RDisk} {F : Nat → Prop} {n : Nat} {w : World} (h : PDisk w p M F n) (hs : s.size ≤ maxLen) :
    Calls Try.prog 16 #[.pointer (some ⟨p, 0, none⟩), .string s] w fun e w' => ∃ v, e = .returned (.tuple #[v, .int .i64 (M.readE s)]) ∧ w'.ownsRow w.heap.size 5 1 v (M.bytes s).length (u8s (M.bytes s)) ∧ Below w.heap.size w w' := by
  obtain ⟨D, ι, m, h1, h2, h3, -⟩ := h
  have hb := h2.bytes h3 s
  have := disk.Read_any s p D F m w h1 hs (by rw [hb.1]; have := (h3.bytes_le s).1; omega)
  rw [hb.1, hb.2.1] at this
  exact this
theorem PDisk.used {p : Nat} {M : RDisk} {F : Nat → Prop} {n : Nat} {w : World} (h : PDisk w p M F n) : Calls Try.prog 27 #[.pointer (some ⟨p, 0, none⟩)] w fun e w' => e = .returned (.int .i64 M.used) ∧ w = w' := by
  obtain ⟨D, ι, m, h1, h2, h3, -⟩ := h
  have := disk.Used_any p D F m w h1
  rw [h2.used] at this
  exact this
theorem PDisk.ops {p : Nat} {M : RDisk} {F : Nat → Prop} {n : Nat} {w : World} (h : PDisk w p M F n) : Calls Try.prog 28 #[.pointer (some ⟨p, 0, none⟩)] w fun e w' => e = .returned (.int .i64 M.ops) ∧ w = w' := by
  obtain ⟨D, ι, m, h1, h2, h3, -⟩ := h
  have := disk.Ops_any p D F m w h1
  rw [h2.ops] at this
  exact this
end Go.Proofs.Ythffkbcjidbdaaa

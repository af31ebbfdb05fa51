/- The law DiskRenames: the disk in plain words, step by step. -/
import Derived.Test.YthffkbcjidbdaaaDmX
namespace Go.Proofs.Ythffkbcjidbdaaa
open Go.RowKit Go.Maps
set_option maxRecDepth 100000

theorem RDisk.actE_0 {M : RDisk} {L : List ByteArray} (h1 : M.off = false) (h2 : M.left = -1) (h3 : L.all dk.okName = true) : M.actE L = 0 := by
  have hd : M.dies = false := by unfold RDisk.dies; rw [h1, h2]; rfl
  unfold RDisk.actE
  rw [if_neg (by rw [hd]; simp), if_pos h3]
theorem RDisk.acted_0 {M : RDisk} (h1 : M.off = false) (h2 : M.left = -1) : M.acted = { M with ops := M.ops + 1 } := by
  have hd : M.dies = false := by unfold RDisk.dies; rw [h1, h2]; rfl
  obtain ⟨room, files, now, safe, acts, left, off, ops⟩ := M
  dsimp only at h1 h2
  subst h1 h2
  unfold RDisk.acted
  rw [hd]
  rfl
/-- Append to a name under which no file stands. -/
theorem RDisk.app_new {M : RDisk} {s : ByteArray} {b : List Nat} (h1 : M.off = false) (h2 : M.left = -1) (h3 : dk.okName s = true) (h4 : rd.look M.now s = none) (h5 : M.used + (b.length : Int) ≤ M.room) :
    M.appE s b = 0 ∧ M.app s b = ⟨M.room, M.files ++ [⟨b, 0⟩], rd.ins M.now s M.files.length, M.safe, M.acts ++ [⟨1, s, dk.no, M.files.length⟩], -1, false, M.ops + 1⟩ := by
  have hE : M.appE s b = 0 := by
    unfold RDisk.appE
    rw [RDisk.actE_0 h1 h2 (by simp [h3]), if_neg (by simp), if_neg (by omega)]
  refine ⟨hE, ?_⟩
  unfold RDisk.app
  rw [if_neg (by rw [hE]; simp), h4]
  dsimp only
  rw [RDisk.acted_0 h1 h2]
  unfold RDisk.add RDisk.lead rd.apply
  rw [if_pos rfl]
  unfold rd.with
  dsimp only
  rw [rd.without_none h4, h1, h2]
/-- Append to a file. -/
theorem RDisk.app_old {M : RDisk} {s : ByteArray} {b : List Nat} {i : Nat} (h1 : M.off = false) (h2 : M.left = -1) (h3 : dk.okName s = true) (h4 : rd.look M.now s = some i) (h5 : M.used + (b.length : Int) ≤ M.room) :
    M.appE s b = 0 ∧ M.app s b = ⟨M.room, M.files.set i ⟨(M.file i).data ++ b, (M.file i).safe⟩, M.now, M.safe, M.acts, -1, false, M.ops + 1⟩ := by
  have hE : M.appE s b = 0 := by
    unfold RDisk.appE
    rw [RDisk.actE_0 h1 h2 (by simp [h3]), if_neg (by simp), if_neg (by omega)]
  refine ⟨hE, ?_⟩
  unfold RDisk.app
  rw [if_neg (by rw [hE]; simp), h4]
  dsimp only
  rw [RDisk.acted_0 h1 h2]
  unfold RDisk.set
  dsimp only
  rw [h1, h2]
theorem RDisk.app_full {M : RDisk} {s : ByteArray} {b : List Nat} (h1 : M.off = false) (h2 : M.left = -1) (h3 : dk.okName s = true) (h5 : M.room < M.used + (b.length : Int)) :
    M.appE s b = 4 ∧ M.app s b = ⟨M.room, M.files, M.now, M.safe, M.acts, -1, false, M.ops + 1⟩ := by
  have hE : M.appE s b = 4 := by
    unfold RDisk.appE
    rw [RDisk.actE_0 h1 h2 (by simp [h3]), if_neg (by simp), if_pos (by omega)]
  refine ⟨hE, ?_⟩
  unfold RDisk.app
  rw [if_pos (by rw [hE]; decide), RDisk.acted_0 h1 h2, h1, h2]
theorem RDisk.sync_old {M : RDisk} {s : ByteArray} {i : Nat} (h1 : M.off = false) (h2 : M.left = -1) (h3 : dk.okName s = true) (h4 : rd.look M.now s = some i) :
    M.syncE s = 0 ∧ M.sync s = ⟨M.room, M.files.set i ⟨(M.file i).data, (M.file i).data.length⟩, M.now, M.safe, M.acts, -1, false, M.ops + 1⟩ := by
  have hE : M.syncE s = 0 := by
    unfold RDisk.syncE
    rw [RDisk.actE_0 h1 h2 (by simp [h3]), if_neg (by simp), h4]
  refine ⟨hE, ?_⟩
  unfold RDisk.sync
  rw [if_neg (by rw [hE]; simp), h4]
  dsimp only
  rw [RDisk.acted_0 h1 h2]
  unfold RDisk.set
  dsimp only
  rw [h1, h2]
theorem RDisk.trunc_old {M : RDisk} {s : ByteArray} {i : Nat} {n : Nat} (h1 : M.off = false) (h2 : M.left = -1) (h3 : dk.okName s = true) (h4 : rd.look M.now s = some i) (h5 : (n : Int) ≤ M.len i) :
    M.truncE s n = 0 ∧ M.trunc s n = ⟨M.room, M.files.set i ⟨(M.file i).data.take n, n⟩, M.now, M.safe, M.acts, -1, false, M.ops + 1⟩ := by
  have hE : M.truncE s n = 0 := by
    unfold RDisk.truncE
    rw [RDisk.actE_0 h1 h2 (by simp [h3]), if_neg (by simp), h4]
    dsimp only
    rw [if_neg (by omega)]
  refine ⟨hE, ?_⟩
  unfold RDisk.trunc
  rw [if_neg (by rw [hE]; simp), h4]
  dsimp only
  rw [RDisk.acted_0 h1 h2, Int.toNat_natCast]
  unfold RDisk.set
  dsimp only
  rw [h1, h2]
theorem RDisk.rem_old {M : RDisk} {s : ByteArray} {i : Nat} (h1 : M.off = false) (h2 : M.left = -1) (h3 : dk.okName s = true) (h4 : rd.look M.now s = some i) :
    M.remE s = 0 ∧ M.rem s = ⟨M.room, M.files, rd.without M.now s, M.safe, M.acts ++ [⟨3, s, dk.no, 0⟩], -1, false, M.ops + 1⟩ := by
  have hE : M.remE s = 0 := by
    unfold RDisk.remE
    rw [RDisk.actE_0 h1 h2 (by simp [h3]), if_neg (by simp), h4]
  refine ⟨hE, ?_⟩
  unfold RDisk.rem
  rw [if_neg (by rw [hE]; simp), RDisk.acted_0 h1 h2]
  unfold RDisk.lead rd.apply
  rw [if_neg (show ¬ (3 : Nat) = 1 by decide), if_neg (show ¬ (3 : Nat) = 2 by decide)]
  dsimp only
  rw [h1, h2]
theorem RDisk.ren_old {M : RDisk} {s t : ByteArray} {i : Nat} (h1 : M.off = false) (h2 : M.left = -1) (h3 : dk.okName s = true) (h3' : dk.okName t = true) (h4 : rd.look M.now s = some i) (h5 : s ≠ t) :
    M.renE s t = 0 ∧ M.ren s t = ⟨M.room, M.files, rd.with (rd.without M.now s) t i, M.safe, M.acts ++ [⟨2, s, t, i⟩], -1, false, M.ops + 1⟩ := by
  have hE : M.renE s t = 0 := by
    unfold RDisk.renE
    rw [RDisk.actE_0 h1 h2 (by simp [h3, h3']), if_neg (by simp), h4]
    dsimp only
    rw [if_neg h5]
  refine ⟨hE, ?_⟩
  unfold RDisk.ren
  rw [if_neg (by rw [hE]; simp), h4]
  dsimp only
  rw [RDisk.acted_0 h1 h2]
  unfold RDisk.lead rd.apply
  rw [if_neg (show ¬ (2 : Nat) = 1 by decide), if_pos (show (2 : Nat) = 2 by decide)]
  dsimp only
  rw [h1, h2]
theorem RDisk.dir_on {M : RDisk} (h1 : M.off = false) (h2 : M.left = -1) : M.actE [] = 0 ∧ M.dir = ⟨M.room, M.files, M.now, M.now, [], -1, false, M.ops + 1⟩ := by
  have hE : M.actE [] = 0 := RDisk.actE_0 h1 h2 rfl
  refine ⟨hE, ?_⟩
  unfold RDisk.dir
  rw [if_neg (by rw [hE]; simp), RDisk.acted_0 h1 h2, h1, h2]
def rn.O : ByteArray := ByteArray.mk #[111, 108, 100]
def rn.N : ByteArray := ByteArray.mk #[110, 101, 119]
theorem rn.ok : dk.okName rn.O = true ∧ dk.okName rn.N = true ∧ rn.O ≠ rn.N ∧ rn.N ≠ rn.O := ⟨by decide, by decide, by decide, by decide⟩
theorem rn.lt : bl.lt rn.O rn.N = false := by
  unfold bl.lt
  rw [ByteArray.toList_eq, ByteArray.toList_eq]
  decide
/-- What stands before the crash, names safe or not. -/
def rn.M5 (a b : List Nat) : RDisk := ⟨1048576, [⟨a, a.length⟩, ⟨b, b.length⟩], [(rn.N, 1), (rn.O, 0)], [(rn.N, 1), (rn.O, 0)], [], -1, false, 5⟩
def rn.M6 (a b : List Nat) : RDisk := ⟨1048576, [⟨a, a.length⟩, ⟨b, b.length⟩], [(rn.O, 1)], [(rn.N, 1), (rn.O, 0)], [⟨2, rn.N, rn.O, 1⟩], -1, false, 6⟩
def rn.M7 (a b : List Nat) : RDisk := ⟨1048576, [⟨a, a.length⟩, ⟨b, b.length⟩], [(rn.O, 1)], [(rn.O, 1)], [], -1, false, 7⟩
def rn.M1 (a : List Nat) : RDisk := ⟨1048576, [⟨a, 0⟩], [(rn.O, 0)], [], [⟨1, rn.O, dk.no, 0⟩], -1, false, 1⟩
def rn.M2 (a : List Nat) : RDisk := ⟨1048576, [⟨a, a.length⟩], [(rn.O, 0)], [], [⟨1, rn.O, dk.no, 0⟩], -1, false, 2⟩
def rn.M3 (a b : List Nat) : RDisk := ⟨1048576, [⟨a, a.length⟩, ⟨b, 0⟩], [(rn.N, 1), (rn.O, 0)], [], [⟨1, rn.O, dk.no, 0⟩, ⟨1, rn.N, dk.no, 1⟩], -1, false, 3⟩
def rn.M4 (a b : List Nat) : RDisk := ⟨1048576, [⟨a, a.length⟩, ⟨b, b.length⟩], [(rn.N, 1), (rn.O, 0)], [], [⟨1, rn.O, dk.no, 0⟩, ⟨1, rn.N, dk.no, 1⟩], -1, false, 4⟩
theorem rn.step1 (a : List Nat) (ha : a.length ≤ 300) : (RDisk.new 1048576).appE rn.O a = 0 ∧ (RDisk.new 1048576).app rn.O a = rn.M1 a := by
  obtain ⟨h1, h2⟩ := RDisk.app_new (M := RDisk.new 1048576) (s := rn.O) (b := a) rfl rfl rn.ok.1 rfl (by show 0 + _ ≤ (1048576 : Int); omega)
  exact ⟨h1, h2⟩
theorem rn.step2 (a : List Nat) : (rn.M1 a).syncE rn.O = 0 ∧ (rn.M1 a).sync rn.O = rn.M2 a := RDisk.sync_old (M := rn.M1 a) (i := 0) rfl rfl rn.ok.1 (show rd.look [(rn.O, 0)] rn.O = some 0 by decide)
theorem rn.step3 (a b : List Nat) (ha : a.length ≤ 300) (hb : b.length ≤ 300) : (rn.M2 a).appE rn.N b = 0 ∧ (rn.M2 a).app rn.N b = rn.M3 a b := by
  have hu : (rn.M2 a).used = (a.length : Int) := by
    show ((a.length : Int) + 0) = _
    omega
  obtain ⟨h1, h2⟩ := RDisk.app_new (M := rn.M2 a) (s := rn.N) (b := b) rfl rfl rn.ok.2.1 (show rd.look [(rn.O, 0)] rn.N = none by decide) (by rw [hu]; show _ ≤ (1048576 : Int); omega)
  refine ⟨h1, h2.trans ?_⟩
  have hi : rd.ins [(rn.O, 0)] rn.N 1 = [(rn.N, 1), (rn.O, 0)] := by
    unfold rd.ins
    rw [if_neg (by rw [rn.lt]; simp)]
  show (⟨1048576, _, rd.ins [(rn.O, 0)] rn.N 1, _, _, -1, false, 3⟩ : RDisk) = _
  rw [hi]
  rfl
theorem rn.step4 (a b : List Nat) : (rn.M3 a b).syncE rn.N = 0 ∧ (rn.M3 a b).sync rn.N = rn.M4 a b := RDisk.sync_old (M := rn.M3 a b) (i := 1) rfl rfl rn.ok.2.1 (show rd.look [(rn.N, 1), (rn.O, 0)] rn.N = some 1 by decide)
theorem rn.step5 (a b : List Nat) : (rn.M4 a b).actE [] = 0 ∧ (rn.M4 a b).dir = rn.M5 a b := RDisk.dir_on (M := rn.M4 a b) rfl rfl
theorem rn.step6 (a b : List Nat) : (rn.M5 a b).renE rn.N rn.O = 0 ∧ (rn.M5 a b).ren rn.N rn.O = rn.M6 a b := by
  obtain ⟨h1, h2⟩ := RDisk.ren_old (M := rn.M5 a b) (s := rn.N) (t := rn.O) (i := 1) rfl rfl rn.ok.2.1 rn.ok.1 (show rd.look [(rn.N, 1), (rn.O, 0)] rn.N = some 1 by decide) rn.ok.2.2.2
  refine ⟨h1, h2.trans ?_⟩
  have e : rd.with (rd.without [(rn.N, 1), (rn.O, 0)] rn.N) rn.O 1 = [(rn.O, 1)] := by decide
  show (⟨1048576, _, rd.with (rd.without [(rn.N, 1), (rn.O, 0)] rn.N) rn.O 1, _, _, -1, false, 6⟩ : RDisk) = _
  rw [e]
  rfl
theorem rn.step7 (a b : List Nat) : (rn.M6 a b).actE [] = 0 ∧ (rn.M6 a b).dir = rn.M7 a b := RDisk.dir_on (M := rn.M6 a b) rfl rfl
theorem dk.keepOf_all (b : List Nat) (ps : List Int) : dk.keepOf ⟨b, b.length⟩ ps = ((b.length : Int), ps) := by
  unfold dk.keepOf
  rw [if_neg (by simp)]
/-- The file stands under its new name alone. -/
theorem rn.crashA {M : RDisk} {a b : List Nat} {ps : List Int} (hf : M.files = [⟨a, a.length⟩, ⟨b, b.length⟩]) (hk : M.keptN ps = [(rn.O, 1)]) : (M.crash ps).readE rn.O = 0 ∧ (M.crash ps).bytes rn.O = b ∧ (M.crash ps).readE rn.N = 5 := by
  have hfile : M.file 1 = ⟨b, b.length⟩ := by unfold RDisk.file; rw [hf]; rfl
  have hc : rd.crashAll M [(rn.O, 1)] (M.restP ps) = ⟨[⟨b, b.length⟩], [(rn.O, 0)], M.restP ps⟩ := by
    show rd.crashStep M ⟨[], [], M.restP ps⟩ (rn.O, 1) = _
    unfold rd.crashStep
    dsimp only
    rw [hfile, dk.keepOf_all]
    dsimp only
    rw [Int.toNat_natCast, List.take_of_length_le (Nat.le_refl _)]
    rfl
  have hM : M.crash ps = ⟨M.room, [⟨b, b.length⟩], [(rn.O, 0)], [(rn.O, 0)], [], -1, false, 0⟩ := by
    unfold RDisk.crash
    rw [hk, hc]
  rw [hM]
  have l1 : rd.look [(rn.O, 0)] rn.O = some 0 := by decide
  have l2 : rd.look [(rn.O, 0)] rn.N = none := by decide
  unfold RDisk.readE RDisk.bytes
  dsimp only
  rw [l1, l2]
  exact ⟨rfl, rfl, rfl⟩
/-- Both stand as they stood. -/
theorem rn.crashB {M : RDisk} {a b : List Nat} {ps : List Int} (hf : M.files = [⟨a, a.length⟩, ⟨b, b.length⟩]) (hk : M.keptN ps = [(rn.N, 1), (rn.O, 0)]) : (M.crash ps).readE rn.O = 0 ∧ (M.crash ps).bytes rn.O = a ∧ (M.crash ps).readE rn.N = 0 ∧ (M.crash ps).bytes rn.N = b := by
  have hfile : M.file 1 = ⟨b, b.length⟩ := by unfold RDisk.file; rw [hf]; rfl
  have hfile0 : M.file 0 = ⟨a, a.length⟩ := by unfold RDisk.file; rw [hf]; rfl
  have hc : rd.crashAll M [(rn.N, 1), (rn.O, 0)] (M.restP ps) = ⟨[⟨b, b.length⟩, ⟨a, a.length⟩], [(rn.N, 0), (rn.O, 1)], M.restP ps⟩ := by
    show rd.crashStep M (rd.crashStep M ⟨[], [], M.restP ps⟩ (rn.N, 1)) (rn.O, 0) = _
    unfold rd.crashStep
    dsimp only
    rw [hfile, hfile0, dk.keepOf_all]
    dsimp only
    rw [dk.keepOf_all]
    dsimp only
    rw [Int.toNat_natCast, Int.toNat_natCast, List.take_of_length_le (Nat.le_refl _), List.take_of_length_le (Nat.le_refl _)]
    rfl
  have hM : M.crash ps = ⟨M.room, [⟨b, b.length⟩, ⟨a, a.length⟩], [(rn.N, 0), (rn.O, 1)], [(rn.N, 0), (rn.O, 1)], [], -1, false, 0⟩ := by
    unfold RDisk.crash
    rw [hk, hc]
  rw [hM]
  have l1 : rd.look [(rn.N, 0), (rn.O, 1)] rn.O = some 1 := by decide
  have l2 : rd.look [(rn.N, 0), (rn.O, 1)] rn.N = some 0 := by decide
  unfold RDisk.readE RDisk.bytes
  dsimp only
  rw [l1, l2]
  exact ⟨rfl, rfl, rfl, rfl⟩
theorem rn.crash7 (a b : List Nat) (ps : List Int) : ((rn.M7 a b).crash ps).readE rn.O = 0 ∧ ((rn.M7 a b).crash ps).bytes rn.O = b ∧ ((rn.M7 a b).crash ps).readE rn.N = 5 := rn.crashA (a := a) rfl (by unfold RDisk.keptN; simp [rn.M7, rd.applyAll])
theorem rn.crash6 (a b : List Nat) (ps : List Int) : (((rn.M6 a b).crash ps).readE rn.O = 0 ∧ ((rn.M6 a b).crash ps).bytes rn.O = b ∧ ((rn.M6 a b).crash ps).readE rn.N = 5) ∨ (((rn.M6 a b).crash ps).readE rn.O = 0 ∧ ((rn.M6 a b).crash ps).bytes rn.O = a ∧ ((rn.M6 a b).crash ps).readE rn.N = 0 ∧ ((rn.M6 a b).crash ps).bytes rn.N = b) := by
  have hle := dk.pick_le (L := ps) (most := ((rn.M6 a b).acts.length : Int)) (by omega)
  have h1 : ((rn.M6 a b).acts.length : Int) = 1 := rfl
  obtain ⟨p, hp⟩ : ∃ p, p = (dk.pick ps ((rn.M6 a b).acts.length : Int)).1.toNat := ⟨_, rfl⟩
  have hk : (rn.M6 a b).keptN ps = rd.applyAll [(rn.N, 1), (rn.O, 0)] (([⟨2, rn.N, rn.O, 1⟩] : List RAct).take p) := by rw [hp]; rfl
  have hp1 : p = 0 ∨ p = 1 := by omega
  rcases hp1 with rfl | rfl
  · refine .inr (rn.crashB rfl ?_)
    rw [hk]
    rfl
  · refine .inl (rn.crashA (a := a) rfl ?_)
    rw [hk]
    decide
end Go.Proofs.Ythffkbcjidbdaaa

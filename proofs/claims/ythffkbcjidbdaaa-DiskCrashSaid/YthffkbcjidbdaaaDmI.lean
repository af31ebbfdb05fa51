/- The law DiskRoom: the disk in plain words, step by step; its acts. -/
import Derived.Test.YthffkbcjidbdaaaDmH
import Derived.Test.YthffkbcjidbdaaaAlike
namespace Go.Proofs.Ythffkbcjidbdaaa
open Go.RowKit Go.Maps
set_option maxRecDepth 100000

def rm.A : ByteArray := ByteArray.mk #[97]
def rm.B : ByteArray := ByteArray.mk #[98]
theorem rm.ok : dk.okName rm.A = true ∧ dk.okName rm.B = true := ⟨by decide, by decide⟩
theorem rm.lt : bl.lt rm.A rm.B = true := by
  unfold bl.lt
  rw [ByteArray.toList_eq, ByteArray.toList_eq]
  decide
abbrev rm.Z (n : Nat) : List Nat := List.replicate n 0
theorem rm.Z_byte (n : Nat) : ∀ x ∈ rm.Z n, x < 256 := fun x hx => by rw [List.eq_of_mem_replicate hx]; decide
def rm.actA : RAct := ⟨1, rm.A, dk.no, 0⟩
def rm.actB : RAct := ⟨1, rm.B, dk.no, 1⟩
def rm.N1 (R : Int) : RDisk := ⟨R, [], [], [], [], -1, false, 1⟩
def rm.M1 (R : Int) (a : List Nat) : RDisk := ⟨R, [⟨a, 0⟩], [(rm.A, 0)], [], [rm.actA], -1, false, 1⟩
def rm.M (R : Int) (a : FileV) (b : List Nat) (o : Int) : RDisk := ⟨R, [a, ⟨b, 0⟩], [(rm.A, 0), (rm.B, 1)], [], [rm.actA, rm.actB], -1, false, o⟩
def rm.M7 (R : Int) (a : FileV) (b : List Nat) : RDisk := ⟨R, [a, ⟨b, 0⟩], [(rm.A, 0)], [], [rm.actA, rm.actB, ⟨3, rm.B, dk.no, 0⟩], -1, false, 7⟩
theorem rm.used1 (R : Int) (a : List Nat) : (rm.M1 R a).used = (a.length : Int) := by
  show ((a.length : Int) + 0) = _
  omega
theorem rm.used (R : Int) (a : FileV) (b : List Nat) (o : Int) : (rm.M R a b o).used = (a.data.length : Int) + (b.length : Int) := by
  show ((a.data.length : Int) + ((b.length : Int) + 0)) = _
  omega
theorem rm.used7 (R : Int) (a : FileV) (b : List Nat) : (rm.M7 R a b).used = (a.data.length : Int) := by
  show ((a.data.length : Int) + 0) = _
  omega
theorem rm.lookA (R : Int) (a : FileV) (b : List Nat) (o : Int) : rd.look (rm.M R a b o).now rm.A = some 0 := by show rd.look [(rm.A, 0), (rm.B, 1)] rm.A = _; decide
theorem rm.lookB (R : Int) (a : FileV) (b : List Nat) (o : Int) : rd.look (rm.M R a b o).now rm.B = some 1 := by show rd.look [(rm.A, 0), (rm.B, 1)] rm.B = _; decide
/-- A new disk's first file. -/
theorem rm.first (R : Int) (a : List Nat) (h : (a.length : Int) ≤ R) : (RDisk.new R).appE rm.A a = 0 ∧ (RDisk.new R).app rm.A a = rm.M1 R a :=
  RDisk.app_new (M := RDisk.new R) (s := rm.A) (b := a) rfl rfl rm.ok.1 rfl (by show 0 + _ ≤ R; omega)
theorem rm.firstNo (R : Int) (a : List Nat) (h : R < (a.length : Int)) : (RDisk.new R).appE rm.A a = 4 ∧ (RDisk.new R).app rm.A a = rm.N1 R :=
  RDisk.app_full (M := RDisk.new R) (s := rm.A) (b := a) rfl rfl rm.ok.1 (by show R < 0 + _; omega)
theorem rm.again (R : Int) (a : List Nat) (h : (a.length : Int) ≤ R) : (rm.N1 R).appE rm.A a = 0 ∧ (rm.N1 R).app rm.A a = ⟨R, [⟨a, 0⟩], [(rm.A, 0)], [], [rm.actA], -1, false, 2⟩ :=
  RDisk.app_new (M := rm.N1 R) (s := rm.A) (b := a) rfl rfl rm.ok.1 rfl (by show 0 + _ ≤ R; omega)
theorem rm.second (R : Int) (a b : List Nat) (h : (a.length : Int) + (b.length : Int) ≤ R) : (rm.M1 R a).appE rm.B b = 0 ∧ (rm.M1 R a).app rm.B b = rm.M R ⟨a, 0⟩ b 2 := by
  obtain ⟨h1, h2⟩ := RDisk.app_new (M := rm.M1 R a) (s := rm.B) (b := b) rfl rfl rm.ok.2 (show rd.look [(rm.A, 0)] rm.B = none by decide) (by rw [rm.used1]; exact h)
  refine ⟨h1, h2.trans ?_⟩
  have hi : rd.ins [(rm.A, 0)] rm.B 1 = [(rm.A, 0), (rm.B, 1)] := by
    unfold rd.ins
    rw [if_pos rm.lt]
    rfl
  show (⟨R, _, rd.ins [(rm.A, 0)] rm.B 1, _, _, -1, false, 2⟩ : RDisk) = _
  rw [hi]
  rfl
theorem rm.full {R : Int} {a : FileV} {b c : List Nat} {o : Int} {s : ByteArray} (hs : dk.okName s = true) (h : R < (a.data.length : Int) + (b.length : Int) + (c.length : Int)) : (rm.M R a b o).appE s c = 4 ∧ (rm.M R a b o).app s c = rm.M R a b (o + 1) :=
  RDisk.app_full (M := rm.M R a b o) (s := s) (b := c) rfl rfl hs (by rw [rm.used]; exact h)
theorem rm.cut {R : Int} {a : FileV} {b : List Nat} {o : Int} {k : Nat} (h : k ≤ a.data.length) : (rm.M R a b o).truncE rm.A k = 0 ∧ (rm.M R a b o).trunc rm.A k = rm.M R ⟨a.data.take k, k⟩ b (o + 1) :=
  RDisk.trunc_old (M := rm.M R a b o) (s := rm.A) (i := 0) rfl rfl rm.ok.1 (rm.lookA R a b o) (by show (k : Int) ≤ (a.data.length : Int); omega)
theorem rm.more {R : Int} {a : FileV} {b c : List Nat} {o : Int} (h : (a.data.length : Int) + (b.length : Int) + (c.length : Int) ≤ R) : (rm.M R a b o).appE rm.B c = 0 ∧ (rm.M R a b o).app rm.B c = rm.M R a (b ++ c) (o + 1) :=
  RDisk.app_old (M := rm.M R a b o) (s := rm.B) (b := c) (i := 1) rfl rfl rm.ok.2 (rm.lookB R a b o) (by rw [rm.used]; exact h)
theorem rm.gone {R : Int} {a : FileV} {b : List Nat} : (rm.M R a b 6).remE rm.B = 0 ∧ (rm.M R a b 6).rem rm.B = rm.M7 R a b := by
  obtain ⟨h1, h2⟩ := RDisk.rem_old (M := rm.M R a b 6) (s := rm.B) (i := 1) rfl rfl rm.ok.2 (rm.lookB R a b 6)
  refine ⟨h1, h2.trans ?_⟩
  have e : rd.without [(rm.A, 0), (rm.B, 1)] rm.B = [(rm.A, 0)] := by decide
  show (⟨R, _, rd.without [(rm.A, 0), (rm.B, 1)] rm.B, _, _, -1, false, 7⟩ : RDisk) = _
  rw [e]
  rfl
/-- Append, its answer and what it leaves known. -/
theorem PDisk.app_is {s : ByteArray} {X : Option Addr} {k c : Nat} {b : List Nat} {p : Nat} {M M' : RDisk} {E : Int} {F : Nat → Prop} {n : Nat} {w : World} (h : PDisk w p M F n) (hs : dk.okName s = true) (hM : M.small) (hat : At w X k (byteAt b)) (hbl : b.length = k) (hb : ∀ x ∈ b, x < 256) (hX : ∀ g off, X = some ⟨g, off, none⟩ → 0 < k → ¬ F g) (hk : k ≤ 4294967296) (hn : n ≤ 50000) (hE : M.appE s b = E ∧ M.app s b = M') :
    Calls Try.prog 22 #[.pointer (some ⟨p, 0, none⟩), .string s, .slice X k c] w fun e w' => e = .returned (.int .i64 E) ∧ PDisk w' p M' (dk.grow F w w') (n + 2) ∧ Chg w w' F := by
  have := h.append (c := c) (dk.ok_le hs) hM hat hbl hb hX hk hn
  rw [hE.1, hE.2] at this
  exact this
theorem rm.small {R : Int} {a : FileV} {b : List Nat} {o : Int} (h : 0 ≤ o ∧ o ≤ 1000) : (rm.M R a b o).small := by
  unfold RDisk.small rm.M
  dsimp only
  omega
/-- Zeros that the caller makes, in a block behind the disk's. -/
theorem rm.make (n : Nat) (hn : n ≤ 3000) : ∃ Z : Array Value, ∀ wx : World, (Instr.makeSlice 34 (.int .i64 (n : Int)) (.int .i64 (n : Int))).run Try.prog wx = .ok (.slice (some ⟨wx.heap.size, 0, Option.none⟩) n n) (wx.alloc (.cells Z 5)) ∧ At (wx.alloc (.cells Z 5)) (some ⟨wx.heap.size, 0, Option.none⟩) n (byteAt (rm.Z n)) := dk.make n hn
/-- Append of zeros that were made just ahead. -/
theorem PDisk.app_zero {s : ByteArray} {p : Nat} {M M' : RDisk} {E : Int} {F : Nat → Prop} {n : Nat} {w : World} (h : PDisk w p M F n) (hs : dk.okName s = true) (hM : M.small) (k : Nat) (Z : Array Value) (hk : k ≤ 3000) (hZ : At (w.alloc (.cells Z 5)) (some ⟨w.heap.size, 0, none⟩) k (byteAt (rm.Z k))) (hn : n ≤ 50000) (hE : M.appE s (rm.Z k) = E ∧ M.app s (rm.Z k) = M') {w0 : World} {B : Nat} (hB : B = w0.heap.size) (hb : Below B w0 w) (hF : ∀ k, F k → B ≤ k) :
    Calls Try.prog 22 #[.pointer (some ⟨p, 0, none⟩), .string s, .slice (some ⟨w.heap.size, 0, none⟩) k k] (w.alloc (.cells Z 5)) fun e w' => e = .returned (.int .i64 E) ∧ (∃ F', PDisk w' p M' F' (n + 2) ∧ ∀ k, F' k → B ≤ k) ∧ Below B w0 w' := by
  have hba : Below w.heap.size w (w.alloc (.cells Z 5)) := (Below.refl _ _).alloc (Nat.le_refl _) _
  have hbz : Below B w0 (w.alloc (.cells Z 5)) := hb.trans (hba.mono (by rw [hB]; exact hb.size))
  refine ((h.below hba).app_is (c := k) hs hM hZ (by simp) (rm.Z_byte k) (fun g off e _ hg => ?_) (by omega) hn hE).mono ?_
  · have h1 : w.heap.size = g := by simpa using congrArg (fun o => o.map Addr.block) e
    have h2 := h.up.2.2.1 g hg
    omega
  · rintro e w' ⟨h1, h2, h3⟩
    obtain ⟨q1, q2⟩ := act_on hB hbz hF h3
    exact ⟨h1, ⟨_, h2, q2⟩, q1⟩
/-- Append of one byte that the caller lays. -/
theorem PDisk.app_x {s : ByteArray} {p : Nat} {M M' : RDisk} {E : Int} {F : Nat → Prop} {n : Nat} {w : World} {fr : Nat × Nat} (h : PDisk w p M F n) (hs : dk.okName s = true) (hM : M.small) (hn : n ≤ 50000) (hE : M.appE s [120] = E ∧ M.app s [120] = M') {w0 : World} {B : Nat} (hB : B = w0.heap.size) (hb : Below B w0 w) (hF : ∀ k, F k → B ≤ k) :
    Calls Try.prog 22 #[.pointer (some ⟨p, 0, none⟩), .string s, .slice (some ⟨w.heap.size, 0, none⟩) 1 1] (w.alloc (.cells #[.int .u8 120] 5 fr)) fun e w' => e = .returned (.int .i64 E) ∧ (∃ F', PDisk w' p M' F' (n + 2) ∧ ∀ k, F' k → B ≤ k) ∧ Below B w0 w' := by
  have hba : Below w.heap.size w (w.alloc (.cells #[.int .u8 120] 5 fr)) := (Below.refl _ _).alloc (Nat.le_refl _) _
  have hbz : Below B w0 (w.alloc (.cells #[.int .u8 120] 5 fr)) := hb.trans (hba.mono (by rw [hB]; exact hb.size))
  refine ((h.below hba).app_is (c := 1) hs hM ((At.new w #[.int .u8 120] 5 (fr := fr) (n := 1) rfl).congr fun j hj => by
    obtain rfl : j = 0 := by omega
    rfl) rfl (fun x hx => by rw [List.mem_singleton.1 hx]; decide) (fun g off e _ hg => ?_) (by omega) hn hE).mono ?_
  · have h1 : w.heap.size = g := by simpa using congrArg (fun o => o.map Addr.block) e
    have h2 := h.up.2.2.1 g hg
    omega
  · rintro e w' ⟨h1, h2, h3⟩
    obtain ⟨q1, q2⟩ := act_on hB hbz hF h3
    exact ⟨h1, ⟨_, h2, q2⟩, q1⟩
theorem rm.cut_is {R : Int} {a : FileV} {b : List Nat} {o : Int} {k p n : Nat} {F : Nat → Prop} {w : World} (h : PDisk w p (rm.M R a b o) F n) (hk : k ≤ a.data.length ∧ a.data.length ≤ 3000) (ho : 0 ≤ o ∧ o ≤ 1000) (hn : n ≤ 50000) {w0 : World} {B : Nat} (hB : B = w0.heap.size) (hb : Below B w0 w) (hF : ∀ k, F k → B ≤ k) :
    Calls Try.prog 32 #[.pointer (some ⟨p, 0, none⟩), .string rm.A, .int .i64 (k : Int)] w fun e w' => e = .returned (.int .i64 0) ∧ (∃ F', PDisk w' p (rm.M R ⟨a.data.take k, k⟩ b (o + 1)) F' n ∧ ∀ k, F' k → B ≤ k) ∧ Below B w0 w' := by
  have := h.truncate (s := rm.A) (x := (k : Int)) (dk.ok_le rm.ok.1) (rm.small ho) (by omega) hn
  rw [(rm.cut hk.1).1, (rm.cut hk.1).2] at this
  refine this.mono ?_
  rintro e w' ⟨h1, h2, h3⟩
  obtain ⟨q1, q2⟩ := act_on hB hb hF h3
  exact ⟨h1, ⟨_, h2, q2⟩, q1⟩
theorem rm.gone_is {R : Int} {a : FileV} {b : List Nat} {p n : Nat} {F : Nat → Prop} {w : World} (h : PDisk w p (rm.M R a b 6) F n) (hn : n ≤ 50000) {w0 : World} {B : Nat} (hB : B = w0.heap.size) (hb : Below B w0 w) (hF : ∀ k, F k → B ≤ k) :
    Calls Try.prog 33 #[.pointer (some ⟨p, 0, none⟩), .string rm.B] w fun e w' => e = .returned (.int .i64 0) ∧ (∃ F', PDisk w' p (rm.M7 R a b) F' (n + 2) ∧ ∀ k, F' k → B ≤ k) ∧ Below B w0 w' := by
  have := h.remove (s := rm.B) (dk.ok_le rm.ok.2) (rm.small (by omega)) hn
  rw [rm.gone.1, rm.gone.2] at this
  refine this.mono ?_
  rintro e w' ⟨h1, h2, h3⟩
  obtain ⟨q1, q2⟩ := act_on hB hb hF h3
  exact ⟨h1, ⟨_, h2, q2⟩, q1⟩
end Go.Proofs.Ythffkbcjidbdaaa

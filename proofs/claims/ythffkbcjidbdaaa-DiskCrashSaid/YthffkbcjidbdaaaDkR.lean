/- Acts on a disk with one file of any name. -/
import Derived.Test.YthffkbcjidbdaaaDkQ
namespace Go.Proofs.Ythffkbcjidbdaaa
open Go.RowKit Go.Maps
set_option maxRecDepth 100000

theorem dk.solo_near {s : ByteArray} {room ops : Int} {f : Nat} {b : List Nat} {sf : Nat} {safe : DNames} {since : List DAct} {fl : Nat → FileV} (h : 0 ≤ ops ∧ ops ≤ 1000000) : (dk.solo s room ops f b sf safe since fl).near := by
  refine ⟨?_, fun h => by cases h⟩
  show -4611686018427387904 ≤ ops ∧ ops ≤ 4611686018427387904
  omega
theorem dk.fine_solo {s : ByteArray} (hs : dk.okName s = true) (f : Nat) : dk.fine [dk.actS s f] := fun a ha => by
  rw [List.mem_singleton.1 ha]
  exact ⟨Nat.zero_le _, dk.ok_le hs, fun _ h => by cases h⟩
theorem dk.solo_bytes {s : ByteArray} {room ops : Int} {f : Nat} {b : List Nat} {sf : Nat} {safe : DNames} {since : List DAct} {fl : Nat → FileV} : (dk.solo s room ops f b sf safe since fl).bytes s = b ∧ (dk.solo s room ops f b sf safe since fl).readE s = 0 ∧ (dk.solo s room ops f b sf safe since fl).size s = (b.length : Int) := by
  unfold Dsk.bytes Dsk.readE Dsk.size
  rw [dk.solo_now]
  dsimp only
  rw [dk.solo_file]
  exact ⟨rfl, rfl, rfl⟩
theorem dk.solo_short {s : ByteArray} {room ops : Int} {f : Nat} {b : List Nat} {sf : Nat} {fl : Nat → FileV} (hs : sf ≤ b.length) (hb : b.length ≤ 1099511627776) : (dk.solo s room ops f b sf (dk.put (fun _ => Option.none) s (some f)) [] fl).short := fun g hg => by
  have hput : ∀ t, dk.put (fun _ => Option.none) s (some f) t = some g → g = f := fun t h => by
    have h : (if t = s then some f else Option.none) = some g := h
    split at h
    · simpa using h.symm
    · cases h
  have e : g = f := by
    rcases hg with ⟨t, h⟩ | ⟨t, h⟩ | ⟨a, ha, h⟩
    · exact hput t h
    · exact hput t h
    · cases ha
  subst e
  rw [dk.solo_file]
  exact ⟨hs, hb⟩
/-- A new disk gets its first file. -/
theorem dk.solo_first {s : ByteArray} (hs : dk.okName s = true) (room : Int) (A : Option Addr) (n c : Nat) (b : List Nat) (p : Nat) (F : Nat → Prop) (w : World) (h : DskIn w p (Dsk.new room) F 0) (hat : At w A n (byteAt b)) (hbl : b.length = n) (hb : ∀ x ∈ b, x < 256) (hX : ∀ k off, A = some ⟨k, off, none⟩ → 0 < n → ¬ F k) (hr : (n : Int) ≤ room) (hr2 : room ≤ 1099511627776) (hn : n ≤ 4294967296) :
    Calls Try.prog 22 #[.pointer (some ⟨p, 0, none⟩), .string s, .slice A n c] w fun e w' => e = .returned (.int .i64 0) ∧ (∃ f fl, DskIn w' p (dk.solo s room 1 f b 0 (fun _ => none) [dk.actS s f] fl) (dk.grow F w w') 1) ∧ Chg w w' F := by
  refine (disk.App_any s A n c b p (Dsk.new room) F 0 w h (dk.ok_le hs) ⟨⟨by show -4611686018427387904 ≤ (0 : Int); decide, by show (0 : Int) ≤ 4611686018427387904; decide⟩, fun h => by cases h⟩ hat hbl hb hX ⟨Int.le_refl _, by show (0 : Int) ≤ room; omega, hr2⟩ hn (Nat.zero_le _) (by omega) (by show 0 ≤ _; omega)).mono ?_
  rintro e w' ⟨h1, ⟨f, -, h2⟩, h3⟩
  obtain ⟨h4, fl, h5⟩ := dk.solo_new hs room b f (by rw [hbl]; exact hr)
  rw [h4] at h1
  rw [h5] at h2
  exact ⟨h1, ⟨f, fl, h2⟩, h3⟩
/-- More is written behind. -/
theorem dk.solo_append {s : ByteArray} (hs : dk.okName s = true) {room ops : Int} {f : Nat} {b : List Nat} {sf : Nat} {safe : DNames} {since : List DAct} {fl : Nat → FileV} (A : Option Addr) (n c : Nat) (d : List Nat) (p m : Nat) (F : Nat → Prop) (w : World) (h : DskIn w p (dk.solo s room ops f b sf safe since fl) F m) (hat : At w A n (byteAt d)) (hdl : d.length = n) (hd : ∀ x ∈ d, x < 256) (hX : ∀ k off, A = some ⟨k, off, none⟩ → 0 < n → ¬ F k) (hr : (b.length : Int) + (n : Int) ≤ room) (hr2 : room ≤ 1099511627776) (ho : 0 ≤ ops ∧ ops ≤ 1000000) (hm : m ≤ 100000) (hsi : since.length ≤ 100000) (hn : n ≤ 4294967296) :
    Calls Try.prog 22 #[.pointer (some ⟨p, 0, none⟩), .string s, .slice A n c] w fun e w' => e = .returned (.int .i64 0) ∧ (∃ fl', DskIn w' p (dk.solo s room (ops + 1) f (b ++ d) sf safe since fl') (dk.grow F w w') (m + 1)) ∧ Chg w w' F := by
  refine (disk.App_any s A n c d p _ F m w h (dk.ok_le hs) (dk.solo_near ho) hat hdl hd hX ⟨by show (0 : Int) ≤ (b.length : Int); omega, by show (b.length : Int) ≤ room; omega, hr2⟩ hn (by rw [dk.solo_bytes.1]; omega) hm hsi).mono ?_
  rintro e w' ⟨h1, ⟨g, hg, h2⟩, h3⟩
  obtain ⟨h4, h5⟩ := dk.solo_more hs (c := d) (by rw [hdl]; exact hr) hg
  rw [h4] at h1
  rw [h5] at h2
  exact ⟨h1, ⟨_, h2⟩, h3⟩
/-- Its bytes are made safe. -/
theorem dk.solo_Sync {s : ByteArray} (hs : dk.okName s = true) {room ops : Int} {f : Nat} {b : List Nat} {sf : Nat} {safe : DNames} {since : List DAct} {fl : Nat → FileV} (p m : Nat) (F : Nat → Prop) (w : World) (h : DskIn w p (dk.solo s room ops f b sf safe since fl) F m) (ho : 0 ≤ ops ∧ ops ≤ 1000000) :
    Calls Try.prog 23 #[.pointer (some ⟨p, 0, none⟩), .string s] w fun e w' => e = .returned (.int .i64 0) ∧ (∃ fl', DskIn w' p (dk.solo s room (ops + 1) f b b.length safe since fl') (dk.grow F w w') m) ∧ Chg w w' F := by
  refine (disk.Sync_any s p _ F m w h (dk.ok_le hs) (dk.solo_near ho)).mono ?_
  rintro e w' ⟨h1, h2, h3⟩
  have hE : (dk.solo s room ops f b sf safe since fl).syncE s = 0 := by
    unfold Dsk.syncE
    rw [if_neg (by rw [dk.comeS hs rfl rfl]; simp), dk.solo_now]
  rw [hE] at h1
  rw [dk.solo_sync hs] at h2
  exact ⟨h1, ⟨_, h2⟩, h3⟩
/-- Its name is made safe. -/
theorem dk.solo_Dir {s : ByteArray} (hs : dk.okName s = true) {room ops : Int} {f : Nat} {b : List Nat} {sf : Nat} {fl : Nat → FileV} (p m : Nat) (F : Nat → Prop) (w : World) (h : DskIn w p (dk.solo s room ops f b sf (fun _ => none) [dk.actS s f] fl) F m) (ho : 0 ≤ ops ∧ ops ≤ 1000000) (hm : m ≤ 100000) :
    Calls Try.prog 24 #[.pointer (some ⟨p, 0, none⟩)] w fun e w' => e = .returned (.int .i64 0) ∧ DskIn w' p (dk.solo s room (ops + 1) f b sf (dk.put (fun _ => none) s (some f)) [] fl) (dk.grow F w w') (m + 1) ∧ Chg w w' F := by
  refine (disk.SyncDir_any p _ F m w h (dk.solo_near ho) (dk.fine_solo hs f) hm (by show 1 ≤ _; omega)).mono ?_
  rintro e w' ⟨h1, h2, h3⟩
  rw [(dk.come0 (D := dk.solo s room ops f b sf (fun _ => none) [dk.actS s f] fl) rfl rfl).2.1] at h1
  rw [dk.solo_dir hs] at h2
  exact ⟨h1, h2, h3⟩
/-- A crash, the name being safe: a beginning is left that holds all of what was safe; the disk stays as it was. -/
theorem dk.solo_Crash {s : ByteArray} (hs : dk.okName s = true) {room ops : Int} {f : Nat} {b : List Nat} {sf : Nat} {fl : Nat → FileV} (A : Option Addr) (n c : Nat) (ps : List Int) (p m : Nat) (F : Nat → Prop) (w : World) (h : DskIn w p (dk.solo s room ops f b sf (dk.put (fun _ => none) s (some f)) [] fl) F m) (hP : dk.Picks w A n c ps) (hsf : sf ≤ b.length) (hb : b.length ≤ 1099511627776) (hm : m ≤ 100000) :
    Calls Try.prog 20 #[.pointer (some ⟨p, 0, none⟩), .slice A n c] w fun e w' => ∃ q D' k m', e = .returned (.pointer (some ⟨q, 0, none⟩)) ∧ DskIn w' q D' (dk.fresh w w') m' ∧ sf ≤ k ∧ k ≤ b.length ∧ D'.bytes s = b.take k ∧ D'.readE s = 0 ∧ D'.size s = (k : Int) ∧ Below w.heap.size w w' := by
  refine (disk.Crash_any A n c ps p _ F m w h hP (fun a ha => by cases ha) hm (by show 0 ≤ _; omega) (dk.solo_short hsf hb)).mono ?_
  rintro e w' ⟨q, ks, D', h1, h2, -, h3, h4, h5⟩
  obtain ⟨k, k1, k2, k3, k4, k5⟩ := dk.crash_solo hs hsf h2 h3
  exact ⟨q, D', k, _, h1, h4, k1, k2, k3, k4, k5, h5⟩
end Go.Proofs.Ythffkbcjidbdaaa

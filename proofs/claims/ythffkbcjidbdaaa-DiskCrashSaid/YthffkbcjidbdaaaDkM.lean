/- A disk with one file, step by step, in plain words. -/
import Derived.Test.YthffkbcjidbdaaaDkL
namespace Go.Proofs.Ythffkbcjidbdaaa
open Go.RowKit Go.Maps
set_option maxRecDepth 100000

def dk.X : ByteArray := ByteArray.mk #[120]
theorem dk.X_no : dk.X ≠ dk.no := by decide
theorem dk.X_ok : dk.okName dk.X = true := by decide
theorem dk.X_le : dk.X.size ≤ maxLen := by decide
/-- A disk with one file, of bytes b, sf of them safe; its name safe or not. -/
def dk.one (room : Int) (ops : Int) (f : Nat) (b : List Nat) (sf : Nat) (safe : DNames) (since : List DAct) (fl : Nat → FileV) : Dsk :=
  ⟨room, (b.length : Int), ops, false, false, 0, dk.put (fun _ => Option.none) dk.X (some f), safe, since, fun g => if g = f then ⟨b, sf⟩ else fl g⟩
def dk.act1 (f : Nat) : DAct := ⟨dk.no, dk.X, some f⟩
theorem dk.on1 (f : Nat) (l : DNames) : (dk.act1 f).on l = dk.put l dk.X (some f) := by
  unfold DAct.on dk.act1
  dsimp only
  rw [if_pos rfl, if_neg dk.X_no]
theorem dk.come0 {D : Dsk} (h1 : D.off = false) (h2 : D.cut = false) : D.comeE [dk.X] = 0 ∧ D.comeE [] = 0 ∧ D.come = { D with ops := D.ops + 1 } := by
  obtain ⟨room, used, ops, off, cut, left, now, safe, since, file⟩ := D
  subst h1 h2
  have hd : (⟨room, used, ops, false, false, left, now, safe, since, file⟩ : Dsk).dies = false := rfl
  refine ⟨?_, ?_, ?_⟩
  · unfold Dsk.comeE
    rw [if_neg (by rw [hd]; simp), if_pos (by simp [dk.X_ok])]
  · unfold Dsk.comeE
    rw [if_neg (by rw [hd]; simp), if_pos (by simp)]
  · unfold Dsk.come
    rw [hd]
    rfl
theorem dk.app_new (room : Int) (b : List Nat) (f : Nat) (h : (b.length : Int) ≤ room) : (Dsk.new room).appE dk.X b = 0 ∧ ∃ fl, (Dsk.new room).app dk.X b f = dk.one room 1 f b 0 (fun _ => Option.none) [dk.act1 f] fl := by
  obtain ⟨h1, -, h3⟩ := dk.come0 (D := Dsk.new room) rfl rfl
  have hE : (Dsk.new room).appE dk.X b = 0 := by
    unfold Dsk.appE
    rw [if_neg (by rw [h1]; simp), if_neg (by show ¬ room - 0 < _; omega)]
  refine ⟨hE, fun g => if g = f then ⟨[], 0⟩ else ⟨[], 0⟩, ?_⟩
  unfold Dsk.app
  rw [if_neg (by rw [hE]; simp), h3, Dsk.with_none (D := { Dsk.new room with ops := (Dsk.new room).ops + 1 }) rfl]
  unfold dk.use dk.setFile Dsk.lead Dsk.new dk.one
  have hon := dk.on1 f (fun _ => Option.none)
  unfold dk.act1 at hon ⊢
  dsimp only
  rw [hon]
  simp
theorem dk.sync_one {room ops : Int} {f : Nat} {b : List Nat} {sf : Nat} {safe : DNames} {since : List DAct} {fl : Nat → FileV} : (dk.one room ops f b sf safe since fl).sync dk.X = dk.one room (ops + 1) f b b.length safe since (fun g => if g = f then ⟨b, sf⟩ else fl g) := by
  obtain ⟨h1, -, h3⟩ := dk.come0 (D := dk.one room ops f b sf safe since fl) rfl rfl
  unfold Dsk.sync
  rw [if_neg (by rw [h1]; simp), h3]
  have hn : (dk.one room ops f b sf safe since fl).now dk.X = some f := by
    show (if dk.X = dk.X then some f else Option.none) = some f
    rw [if_pos rfl]
  rw [hn]
  dsimp only
  unfold dk.setFile dk.one
  simp
theorem dk.dir_one {room ops : Int} {f : Nat} {b : List Nat} {sf : Nat} {fl : Nat → FileV} : (dk.one room ops f b sf (fun _ => Option.none) [dk.act1 f] fl).dir = dk.one room (ops + 1) f b sf (dk.put (fun _ => Option.none) dk.X (some f)) [] fl := by
  obtain ⟨-, h1, h3⟩ := dk.come0 (D := dk.one room ops f b sf (fun _ => Option.none) [dk.act1 f] fl) rfl rfl
  unfold Dsk.dir
  rw [if_neg (by rw [h1]; simp), h3]
  have hr : dk.run (fun _ => Option.none) [dk.act1 f] = dk.put (fun _ => Option.none) dk.X (some f) := dk.on1 f _
  unfold dk.one
  dsimp only
  rw [hr]
theorem dk.one_has {room ops : Int} {f : Nat} {b : List Nat} {sf : Nat} {safe : DNames} {since : List DAct} {fl : Nat → FileV} (h1 : ∀ s g, safe s = some g → g = f) (h2 : ∀ a ∈ since, a.f = some f) {g : Nat} (h : (dk.one room ops f b sf safe since fl).Has g) : g = f := by
  rcases h with ⟨s, h⟩ | ⟨s, h⟩ | ⟨a, ha, h⟩
  · have h : (if s = dk.X then some f else Option.none) = some g := h
    split at h
    · simpa using h.symm
    · cases h
  · exact h1 s g h
  · have := h2 a ha
    rw [h] at this
    simpa using this
theorem dk.one_short {room ops : Int} {f : Nat} {b : List Nat} {sf : Nat} {safe : DNames} {since : List DAct} {fl : Nat → FileV} (h1 : ∀ s g, safe s = some g → g = f) (h2 : ∀ a ∈ since, a.f = some f) (hs : sf ≤ b.length) (hb : b.length ≤ 1099511627776) : (dk.one room ops f b sf safe since fl).short := fun g hg => by
  obtain rfl := dk.one_has h1 h2 hg
  show (if g = g then (⟨b, sf⟩ : FileV) else fl g).safe ≤ (if g = g then (⟨b, sf⟩ : FileV) else fl g).data.length ∧ (if g = g then (⟨b, sf⟩ : FileV) else fl g).data.length ≤ _
  rw [if_pos rfl]
  exact ⟨hs, hb⟩
theorem dk.keys_none {ks : List ByteArray} {g : ByteArray → Option Value} (h : dk.Keys g ks) (hg : ∀ s, g s = Option.none) : ks = [] := by
  cases ks with
  | nil => rfl
  | cons s ks =>
    have := ((h.2 s).1 (by simp)).2
    rw [hg s] at this
    cases this
theorem dk.keys_one {ks : List ByteArray} {g : ByteArray → Option Value} {x : ByteArray} (h : dk.Keys g ks) (hx : x.size ≤ maxLen) (hg : ∀ s, (g s).isSome = true ↔ s = x) : ks = [x] := by
  have hm : ∀ s, s ∈ ks ↔ s = x := fun s => by
    rw [h.2 s, hg s]
    exact ⟨fun hh => hh.2, fun e => ⟨by rw [e]; exact hx, e⟩⟩
  have hp : ks.Perm [x] := (List.perm_ext_iff_of_nodup h.1 (by simp)).2 fun s => by rw [hm s]; simp
  exact List.perm_singleton.1 hp
/-- What a crash leaves, no name being safe. -/
theorem dk.crash_none {D D' : Dsk} {ks : List ByteArray} (hs : ∀ s, D.safe s = Option.none) (hk : dk.Keys (fun s => (D.kept [] s).map dk.ptr) ks) (h : dk.Holds D' D.room (dk.left D (D.kept []) ks (D.rest []))) : D'.size dk.X = -1 := by
  have hkept : ∀ s, D.kept [] s = Option.none := fun s => hs s
  obtain rfl := dk.keys_none hk fun s => by rw [hkept s]; rfl
  have h0 : D'.now dk.X = Option.none := by
    rcases h.file dk.X with h | ⟨f, b, h1, -⟩
    · exact h.2
    · cases h1
  unfold Dsk.size
  rw [h0]
/-- What a crash leaves of one file that is safe. -/
theorem dk.crash_one {room ops : Int} {f : Nat} {b : List Nat} {fl : Nat → FileV} {D' : Dsk} {ks : List ByteArray} (hk : dk.Keys (fun s => ((dk.one room ops f b b.length (dk.put (fun _ => Option.none) dk.X (some f)) [] fl).kept [] s).map dk.ptr) ks)
    (h : dk.Holds D' room (dk.left (dk.one room ops f b b.length (dk.put (fun _ => Option.none) dk.X (some f)) [] fl) ((dk.one room ops f b b.length (dk.put (fun _ => Option.none) dk.X (some f)) [] fl).kept []) ks ((dk.one room ops f b b.length (dk.put (fun _ => Option.none) dk.X (some f)) [] fl).rest []))) : D'.size dk.X = (b.length : Int) ∧ D'.bytes dk.X = b := by
  have hkept : (dk.one room ops f b b.length (dk.put (fun _ => Option.none) dk.X (some f)) [] fl).kept [] = dk.put (fun _ => Option.none) dk.X (some f) := rfl
  rw [hkept] at hk h
  have hput : ∀ s, dk.put (fun _ => Option.none) dk.X (some f) s = if s = dk.X then some f else Option.none := fun s => rfl
  obtain rfl := dk.keys_one hk dk.X_le fun s => by
    rw [hput s]
    by_cases e : s = dk.X
    · rw [if_pos e]; simp [e]
    · rw [if_neg e]; simp [e]
  have hfile : (dk.one room ops f b b.length (dk.put (fun _ => Option.none) dk.X (some f)) [] fl).file f = ⟨b, b.length⟩ := by
    show (if f = f then (⟨b, b.length⟩ : FileV) else fl f) = _
    rw [if_pos rfl]
  have hby : ∀ R, (dk.left (dk.one room ops f b b.length (dk.put (fun _ => Option.none) dk.X (some f)) [] fl) (dk.put (fun _ => Option.none) dk.X (some f)) [dk.X] R).by_ dk.X = some b := fun R => by
    unfold dk.left
    rw [List.foldl_cons, List.foldl_nil]
    unfold dk.leftStep
    rw [hput, if_pos rfl]
    dsimp only
    rw [if_pos rfl, hfile]
    have hk : (dk.keepOf (⟨b, b.length⟩ : FileV) R).1 = (b.length : Int) := by
      unfold dk.keepOf
      rw [if_neg (by simp)]
    rw [hk, Int.toNat_natCast, List.take_of_length_le (Nat.le_refl _)]
  rcases h.file dk.X with h1 | ⟨g, c, h1, h2, h3⟩
  · rw [hby] at h1
    cases h1.1
  · rw [hby] at h1
    have hc : b = c := by simpa using h1
    subst hc
    unfold Dsk.size Dsk.bytes
    rw [h2]
    dsimp only
    rw [h3]
    exact ⟨rfl, rfl⟩
end Go.Proofs.Ythffkbcjidbdaaa

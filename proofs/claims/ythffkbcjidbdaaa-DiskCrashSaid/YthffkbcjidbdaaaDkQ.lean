/- A disk with one file of any name, step by step, in plain words; what a crash with picks leaves of it. -/
import Derived.Test.YthffkbcjidbdaaaDkN
namespace Go.Proofs.Ythffkbcjidbdaaa
open Go.RowKit Go.Maps
set_option maxRecDepth 100000

theorem dk.ok_no {s : ByteArray} (h : dk.okName s = true) : s ≠ dk.no := fun e => by
  subst e
  revert h
  decide
theorem dk.ok_le {s : ByteArray} (h : dk.okName s = true) : s.size ≤ maxLen := by
  unfold dk.okName at h
  have := of_decide_eq_true h
  unfold maxLen
  omega
/-- A disk with one file s, of bytes b, sf of them safe; its name safe or not. -/
def dk.solo (s : ByteArray) (room : Int) (ops : Int) (f : Nat) (b : List Nat) (sf : Nat) (safe : DNames) (since : List DAct) (fl : Nat → FileV) : Dsk :=
  ⟨room, (b.length : Int), ops, false, false, 0, dk.put (fun _ => Option.none) s (some f), safe, since, fun g => if g = f then ⟨b, sf⟩ else fl g⟩
def dk.actS (s : ByteArray) (f : Nat) : DAct := ⟨dk.no, s, some f⟩
theorem dk.onS {s : ByteArray} (hs : dk.okName s = true) (f : Nat) (l : DNames) : (dk.actS s f).on l = dk.put l s (some f) := by
  unfold DAct.on dk.actS
  dsimp only
  rw [if_pos rfl, if_neg (dk.ok_no hs)]
theorem dk.comeS {D : Dsk} {s : ByteArray} (hs : dk.okName s = true) (h1 : D.off = false) (h2 : D.cut = false) : D.comeE [s] = 0 := by
  have hd : D.dies = false := by unfold Dsk.dies; rw [h1, h2]; rfl
  unfold Dsk.comeE
  rw [if_neg (by rw [hd]; simp), if_pos (by simp [hs])]
theorem dk.solo_now {s : ByteArray} {room ops : Int} {f : Nat} {b : List Nat} {sf : Nat} {safe : DNames} {since : List DAct} {fl : Nat → FileV} : (dk.solo s room ops f b sf safe since fl).now s = some f := by
  show (if s = s then some f else Option.none) = some f
  rw [if_pos rfl]
theorem dk.solo_file {s : ByteArray} {room ops : Int} {f : Nat} {b : List Nat} {sf : Nat} {safe : DNames} {since : List DAct} {fl : Nat → FileV} : (dk.solo s room ops f b sf safe since fl).file f = ⟨b, sf⟩ := by
  show (if f = f then (⟨b, sf⟩ : FileV) else fl f) = ⟨b, sf⟩
  rw [if_pos rfl]
theorem dk.solo_new {s : ByteArray} (hs : dk.okName s = true) (room : Int) (b : List Nat) (f : Nat) (h : (b.length : Int) ≤ room) : (Dsk.new room).appE s b = 0 ∧ ∃ fl, (Dsk.new room).app s b f = dk.solo s room 1 f b 0 (fun _ => Option.none) [dk.actS s f] fl := by
  obtain ⟨-, -, h3⟩ := dk.come0 (D := Dsk.new room) rfl rfl
  have hE : (Dsk.new room).appE s b = 0 := by
    unfold Dsk.appE
    rw [if_neg (by rw [dk.comeS hs rfl rfl]; simp), if_neg (by show ¬ room - 0 < _; omega)]
  refine ⟨hE, fun g => if g = f then ⟨[], 0⟩ else ⟨[], 0⟩, ?_⟩
  unfold Dsk.app
  rw [if_neg (by rw [hE]; simp), h3, Dsk.with_none (D := { Dsk.new room with ops := (Dsk.new room).ops + 1 }) rfl]
  unfold dk.use dk.setFile Dsk.lead Dsk.new dk.solo
  have hon := dk.onS hs f (fun _ => Option.none)
  unfold dk.actS at hon ⊢
  dsimp only
  rw [hon]
  simp
/-- More is written behind. -/
theorem dk.solo_more {s : ByteArray} (hs : dk.okName s = true) {room ops : Int} {f g : Nat} {b c : List Nat} {sf : Nat} {safe : DNames} {since : List DAct} {fl : Nat → FileV} {n : Nat} (h : (b.length : Int) + (c.length : Int) ≤ room) (hg : (dk.solo s room ops f b sf safe since fl).Leads s n g) :
    (dk.solo s room ops f b sf safe since fl).appE s c = 0 ∧ (dk.solo s room ops f b sf safe since fl).app s c g = dk.solo s room (ops + 1) f (b ++ c) sf safe since (fun g => if g = f then ⟨b, sf⟩ else fl g) := by
  have hgf : g = f := by
    rcases hg with hg | ⟨hg, -⟩
    · rw [dk.solo_now] at hg
      simpa using hg.symm
    · rw [dk.solo_now] at hg
      cases hg
  subst hgf
  obtain ⟨-, -, h3⟩ := dk.come0 (D := dk.solo s room ops g b sf safe since fl) rfl rfl
  have hE : (dk.solo s room ops g b sf safe since fl).appE s c = 0 := by
    unfold Dsk.appE
    rw [if_neg (by rw [dk.comeS hs rfl rfl]; simp), if_neg (by show ¬ room - (b.length : Int) < _; omega)]
  refine ⟨hE, ?_⟩
  unfold Dsk.app
  rw [if_neg (by rw [hE]; simp), h3, Dsk.with_some (D := { dk.solo s room ops g b sf safe since fl with ops := (dk.solo s room ops g b sf safe since fl).ops + 1 }) (g := g) dk.solo_now]
  unfold dk.use dk.setFile dk.solo
  simp
theorem dk.solo_sync {s : ByteArray} (hs : dk.okName s = true) {room ops : Int} {f : Nat} {b : List Nat} {sf : Nat} {safe : DNames} {since : List DAct} {fl : Nat → FileV} : (dk.solo s room ops f b sf safe since fl).sync s = dk.solo s room (ops + 1) f b b.length safe since (fun g => if g = f then ⟨b, sf⟩ else fl g) := by
  obtain ⟨-, -, h3⟩ := dk.come0 (D := dk.solo s room ops f b sf safe since fl) rfl rfl
  unfold Dsk.sync
  rw [if_neg (by rw [dk.comeS hs rfl rfl]; simp), h3, dk.solo_now]
  dsimp only
  unfold dk.setFile dk.solo
  simp
theorem dk.solo_dir {s : ByteArray} (hs : dk.okName s = true) {room ops : Int} {f : Nat} {b : List Nat} {sf : Nat} {fl : Nat → FileV} : (dk.solo s room ops f b sf (fun _ => Option.none) [dk.actS s f] fl).dir = dk.solo s room (ops + 1) f b sf (dk.put (fun _ => Option.none) s (some f)) [] fl := by
  obtain ⟨-, h1, h3⟩ := dk.come0 (D := dk.solo s room ops f b sf (fun _ => Option.none) [dk.actS s f] fl) rfl rfl
  unfold Dsk.dir
  rw [if_neg (by rw [h1]; simp), h3]
  have hr : dk.run (fun _ => Option.none) [dk.actS s f] = dk.put (fun _ => Option.none) s (some f) := dk.onS hs f _
  unfold dk.solo
  dsimp only
  rw [hr]
/-- How much of a file is left lies between what is safe and all. -/
theorem dk.keepOf_le {v : FileV} {ps : List Int} (h : v.safe ≤ v.data.length) : (v.safe : Int) ≤ (dk.keepOf v ps).1 ∧ (dk.keepOf v ps).1 ≤ (v.data.length : Int) := by
  unfold dk.keepOf
  split
  · have := dk.pick_le (L := ps) (most := (v.data.length : Int) - (v.safe : Int)) (by omega)
    dsimp only
    omega
  · dsimp only
    omega
/-- What a crash leaves of one file whose name is safe: a beginning that holds all of what was safe. -/
theorem dk.crash_solo {s : ByteArray} (hs : dk.okName s = true) {room ops : Int} {f : Nat} {b : List Nat} {sf : Nat} {fl : Nat → FileV} {D' : Dsk} {ks : List ByteArray} {ps : List Int} (hsf : sf ≤ b.length) (hk : dk.Keys (fun t => ((dk.solo s room ops f b sf (dk.put (fun _ => Option.none) s (some f)) [] fl).kept ps t).map dk.ptr) ks)
    (h : dk.Holds D' room (dk.left (dk.solo s room ops f b sf (dk.put (fun _ => Option.none) s (some f)) [] fl) ((dk.solo s room ops f b sf (dk.put (fun _ => Option.none) s (some f)) [] fl).kept ps) ks ((dk.solo s room ops f b sf (dk.put (fun _ => Option.none) s (some f)) [] fl).rest ps))) :
    ∃ n, sf ≤ n ∧ n ≤ b.length ∧ D'.bytes s = b.take n ∧ D'.readE s = 0 ∧ D'.size s = (n : Int) := by
  have hkept : (dk.solo s room ops f b sf (dk.put (fun _ => Option.none) s (some f)) [] fl).kept ps = dk.put (fun _ => Option.none) s (some f) := by
    unfold Dsk.kept dk.solo
    rw [List.take_nil]
    rfl
  rw [hkept] at hk h
  have hput : ∀ t, dk.put (fun _ => Option.none) s (some f) t = if t = s then some f else Option.none := fun t => rfl
  obtain rfl := dk.keys_one hk (dk.ok_le hs) fun t => by
    rw [hput t]
    by_cases e : t = s
    · rw [if_pos e]; simp [e]
    · rw [if_neg e]; simp [e]
  generalize (dk.solo s room ops f b sf (dk.put (fun _ => Option.none) s (some f)) [] fl).rest ps = R at h
  have hle := dk.keepOf_le (v := ⟨b, sf⟩) (ps := R) hsf
  have hby : (dk.left (dk.solo s room ops f b sf (dk.put (fun _ => Option.none) s (some f)) [] fl) (dk.put (fun _ => Option.none) s (some f)) [s] R).by_ s = some (b.take (dk.keepOf ⟨b, sf⟩ R).1.toNat) := by
    unfold dk.left
    rw [List.foldl_cons, List.foldl_nil]
    unfold dk.leftStep
    rw [hput, if_pos rfl]
    dsimp only
    rw [if_pos rfl, dk.solo_file]
  obtain ⟨n, hn⟩ : ∃ n : Nat, n = (dk.keepOf ⟨b, sf⟩ R).1.toNat := ⟨_, rfl⟩
  rw [← hn] at hby
  have hn1 : sf ≤ n ∧ n ≤ b.length := by
    have h1 : ((⟨b, sf⟩ : FileV).safe : Int) = (sf : Int) := rfl
    have h2 : ((⟨b, sf⟩ : FileV).data.length : Int) = (b.length : Int) := rfl
    rw [h1, h2] at hle
    omega
  refine ⟨n, hn1.1, hn1.2, ?_⟩
  rcases h.file s with h1 | ⟨g, c, h1, h2, h3⟩
  · rw [hby] at h1
    cases h1.1
  · rw [hby] at h1
    have hc : b.take n = c := by simpa using h1
    subst hc
    unfold Dsk.size Dsk.bytes Dsk.readE
    rw [h2]
    dsimp only
    rw [h3]
    exact ⟨rfl, rfl, by dsimp only; rw [List.length_take]; omega⟩
end Go.Proofs.Ythffkbcjidbdaaa

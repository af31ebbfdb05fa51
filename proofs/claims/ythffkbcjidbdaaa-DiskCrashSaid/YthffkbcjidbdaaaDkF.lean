/- come, of a disk; Sync. -/
import Derived.Test.YthffkbcjidbdaaaDkE
namespace Go.Proofs.Ythffkbcjidbdaaa
open Go.RowKit Go.Maps
set_option maxRecDepth 100000

/-- Numbers that are counted with. -/
def Dsk.near (D : Dsk) : Prop := (-4611686018427387904 ≤ D.ops ∧ D.ops ≤ 4611686018427387904) ∧ (D.cut = true → 0 ≤ D.left ∧ D.left ≤ 9223372036854775807)
theorem disk.come_at (p : Nat) (D : Dsk) (F S : Nat → Prop) (m bn bs : Nat) (sv : Value) (dat : Nat → Value) (A : Option Addr) (n c : Nat) (L : List ByteArray) (w : World) (h : DskAt w p D F m S bn bs sv dat) (hat : At w A n (fun j => .string (L.getD j dk.no))) (hne : ∀ b off, A = some ⟨b, off, none⟩ → b ≠ p) (hl : L.length = n) (hn : n ≤ 1000) (hD : D.near) (hsz : ∀ s ∈ L, s.size ≤ maxLen) :
    Calls Try.prog 54 #[.pointer (some ⟨p, 0, none⟩), .slice A n c] w fun e w' => e = .returned (.int .i64 (D.comeE L)) ∧ DskAt w' p D.come F m S bn bs sv dat ∧ Chg w w' (fun k => k = p) ∧ w'.heap.size = w.heap.size := by
  refine (disk.come_any p D (.map (some bn)) (.map (some bs)) sv A n c L w h.blk hat hne hl hn hD.1 hD.2 hsz).mono ?_
  rintro e w' ⟨h1, h2, h3, h4⟩
  exact ⟨h1, h.scal h3 h2 rfl rfl rfl rfl, h3, h4⟩
/-- come, of one name that the caller lays. -/
theorem disk.come_one (p : Nat) (D : Dsk) (F S : Nat → Prop) (m bn bs : Nat) (sv : Value) (dat : Nat → Value) (s : ByteArray) (w : World) (h : DskAt w p D F m S bn bs sv dat) (hD : D.near) (hs : s.size ≤ maxLen) :
    Calls Try.prog 54 #[.pointer (some ⟨p, 0, none⟩), .slice (some ⟨w.heap.size, 0, none⟩) 1 1] (w.alloc (.cells #[.string s] 9)) fun e w' => e = .returned (.int .i64 (D.comeE [s])) ∧ DskAt w' p D.come F m S bn bs sv dat ∧ Chg w w' (fun k => k = p) ∧ w'.heap.size = w.heap.size + 1 := by
  have hb : Below w.heap.size w (w.alloc (.cells #[.string s] 9)) := (Below.refl _ _).alloc (Nat.le_refl _) _
  have hp := h.blk.lt
  refine (disk.come_at p D F S m bn bs sv dat _ 1 1 [s] _ (h.keep (chg_of (P := fun _ => False) hb) fun _ _ q => q) ((At.one w (.string s) 9).congr fun j hj => ?_) (fun b off e => ?_) rfl (by omega) hD (fun t ht => by rw [List.mem_singleton.1 ht]; exact hs)).mono ?_
  · obtain rfl : j = 0 := by omega
    rfl
  · have : w.heap.size = b := by simpa using congrArg (fun o => o.map Addr.block) e
    omega
  · rintro e w' ⟨h1, h2, h3, h4⟩
    exact ⟨h1, h2, (chg_of (P := fun k => k = p) hb).trans h3 fun _ _ q => q, by rw [h4]; simp⟩
theorem Dsk.comeE_le (D : Dsk) (L : List ByteArray) : D.comeE L = 0 ∨ (D.comeE L ≠ 0 ∧ (D.comeE L = 1 ∨ D.comeE L = 7)) := by
  unfold Dsk.comeE
  split
  · exact .inr ⟨by decide, .inr rfl⟩
  · split
    · exact .inl rfl
    · exact .inr ⟨by decide, .inl rfl⟩

def Dsk.syncE (D : Dsk) (s : ByteArray) : Int := if D.comeE [s] ≠ 0 then D.comeE [s] else match D.now s with | Option.none => 5 | some _ => 0
def Dsk.sync (D : Dsk) (s : ByteArray) : Dsk := if D.comeE [s] ≠ 0 then D.come else match D.now s with | Option.none => D.come | some f => dk.setFile D.come f ⟨(D.file f).data, (D.file f).data.length⟩
theorem DskAt.wide {w : World} {p : Nat} {D : Dsk} {F F' S : Nat → Prop} {m bn bs : Nat} {sv : Value} {dat : Nat → Value} (h : DskAt w p D F m S bn bs sv dat) (hup : ∀ k, F k → F' k) (hl : ∀ k, F' k → k < w.heap.size) : DskAt w p D F' m S bn bs sv dat := by
  obtain ⟨f1, f2, f3, f4, f5⟩ := h.foot
  exact ⟨h.blk, h.ne, h.now, h.safe, h.row, h.has, h.file, h.apart, ⟨hup _ f1, hup _ f2, hup _ f3, fun k hk => hup k (f4 k hk), fun f hf => ⟨hup f (f5 f hf).1, fun k hk => hup k ((f5 f hf).2 k hk)⟩⟩, hl⟩
theorem DskAt.loose {w w' : World} {p : Nat} {D : Dsk} {F S : Nat → Prop} {m bn bs : Nat} {sv : Value} {dat : Nat → Value} (h : DskAt w' p D F m S bn bs sv dat) : DskAt w' p D (dk.grow F w w') m S bn bs sv dat :=
  h.wide (fun _ hk => ⟨.inl hk, h.lt _ hk⟩) fun _ hk => hk.2
/-- Grown twice is grown. -/
theorem DskAt.grown {w w1 w2 : World} {p : Nat} {D : Dsk} {F S : Nat → Prop} {m bn bs : Nat} {sv : Value} {dat : Nat → Value} (h : DskAt w2 p D (dk.grow F w1 w2) m S bn bs sv dat) (hs : w.heap.size ≤ w1.heap.size) : DskAt w2 p D (dk.grow F w w2) m S bn bs sv dat :=
  h.wide (fun _ hk => ⟨hk.1.imp id fun q => Nat.le_trans hs q, hk.2⟩) fun _ hk => hk.2
set_option maxHeartbeats 2000000 in
theorem disk.Sync_any (s : ByteArray) (p : Nat) (D : Dsk) (F : Nat → Prop) (m : Nat) (w : World) (h : DskIn w p D F m) (hs : s.size ≤ maxLen) (hD : D.near) : Calls Try.prog 23 #[.pointer (some ⟨p, 0, none⟩), .string s] w fun e w' => e = .returned (.int .i64 (D.syncE s)) ∧ DskIn w' p (D.sync s) (dk.grow F w w') m ∧ Chg w w' F := by
  obtain ⟨S, bn, bs, sv, dat, h⟩ := h
  have hcome := disk.come_one p D F S m bn bs sv dat s w h hD hs
  have HC := Lib.hid hcome; clear hcome
  have hpF := h.foot.1
  have HPF := Lib.hid hpF; clear hpF
  clear h
  obtain ⟨z, hz⟩ : ∃ z, z = D.syncE s := ⟨_, rfl⟩
  obtain ⟨D', hD'⟩ : ∃ D', D' = D.sync s := ⟨_, rfl⟩
  rw [← hz, ← hD']
  unfold Dsk.syncE at hz
  unfold Dsk.sync at hD'
  have hcase := D.comeE_le [s]
  obtain ⟨E, hE⟩ : ∃ E, E = D.comeE [s] := ⟨_, rfl⟩
  have hnow : D.come.now = D.now := rfl
  have hfile : D.come.file = D.file := rfl
  obtain ⟨D1, hD1⟩ : ∃ D1, D1 = D.come := ⟨_, rfl⟩
  rw [← hE] at hz hD' hcase HC
  rw [← hD1] at hD' HC hnow hfile
  rw [← hnow, ← hfile] at hD'
  rw [← hnow] at hz
  clear hnow hfile hD1 hE hD
  go_enter Try.func23, Try.ntmps23
  rcases hcase with rfl | ⟨hne, -⟩
  · rw [if_neg (by simp)] at hz hD'
    have HZ := Lib.hid (And.intro hz hD'); clear hz hD'
    go_upto_region 4 with (go_at_call 54; refine HC.out.mono ?_; rintro e w1 ⟨rfl, h1, h2, h3⟩; have H1 := Lib.hid (And.intro h1 (And.intro h2 h3)); clear h1 h2 h3)
    have hk := H1.out.1.now.look s hs
    have k6 := H1.out.1.blk.cell 6 (v := .map (some bn)) rfl
    have hpl := H1.out.1.blk.lt
    cases hf : D1.now s with
    | none =>
      rw [hf] at hk
      replace hk : (Instr.lookup 80 (.map (some bn)) (.string s) false).run Try.prog w1 = .ok (.pointer none) w1 := hk
      have hz := HZ.out
      rw [hf] at hz
      have HZ2 := Lib.hid (show z = 5 ∧ D' = D1 from hz); clear hz HZ hf
      go_wp2_with fail
      go_ret
      exact ⟨by rw [HZ2.out.1]; rfl, by rw [HZ2.out.2]; exact ⟨S, bn, bs, sv, dat, H1.out.1.loose⟩, H1.out.2.1.mono fun k _ e => by rw [e]; exact HPF.out⟩
    | some f =>
      rw [hf] at hk
      replace hk : (Instr.lookup 80 (.map (some bn)) (.string s) false).run Try.prog w1 = .ok (.pointer (some ⟨f, 0, none⟩)) w1 := hk
      have hz := HZ.out
      rw [hf] at hz
      have hSf := H1.out.1.has f (.inl ⟨s, hf⟩)
      have hfile := H1.out.1.file f hSf
      obtain ⟨n, hn⟩ : ∃ n, n = (D1.file f).data.length := ⟨_, rfl⟩
      have HZ2 := Lib.hid (show z = 0 ∧ D' = dk.setFile D1 f ⟨(D1.file f).data, n⟩ from by rw [hn]; exact hz); clear hz HZ hf
      obtain ⟨A, c, hA, -⟩ := own_at hfile.2.1
      have d0 := hfile.1.cell 0 (v := dat f) rfl
      rw [hA, ← hn] at d0
      have d1 := hfile.1.cell 1 (v := .int .i64 ((D1.file f).safe : Int)) rfl
      have hfl := hfile.1.lt
      have z1 := hfile.1.frozen 1
      obtain ⟨w2, hw2⟩ : ∃ w2, w2 = w1.setCell ⟨f, 1, none⟩ (.int .i64 (n : Int)) := ⟨_, rfl⟩
      have hc2 : Chg w1 w2 (fun k => k = f) := by rw [hw2]; exact Chg.setCell _ _ _ _
      have hb2 : Blk w2 f 86 #[dat f, .int .i64 (n : Int)] := by rw [hw2]; exact hfile.1.set 1 _
      have hfa : FileAt w2 f ⟨(D1.file f).data, n⟩ (dat f) := ⟨hb2, hc2.own hfile.2.1 fun k hk e => by subst e; exact hfile.1.not_row (by decide) hfile.2.1 hk, hfile.2.2⟩
      have hw := H1.out.1.write hSf (hc2.mono fun k _ e => .inl e) hfa (.inl rfl)
      have hfF := (H1.out.1.foot.2.2.2.2 f hSf).1
      have HF := Lib.hid (And.intro hw (And.intro hfF hc2)); clear hw hfF hc2 hb2 hfa hfile hA hn hSf
      go_wp2_with fail
      rw [← hw2]
      clear hw2
      go_ret
      refine ⟨by rw [HZ2.out.1]; rfl, ?_, ?_⟩
      · rw [HZ2.out.2]
        exact ⟨S, bn, bs, sv, _, HF.out.1.grown (by rw [H1.out.2.2]; omega)⟩
      · exact (H1.out.2.1.mono fun k _ e => by rw [e]; exact HPF.out).trans (HF.out.2.2.mono fun k _ e => by rw [e]; exact HF.out.2.1) fun _ _ q => q
  · rw [if_pos hne] at hz hD'
    have HZ := Lib.hid (And.intro hz hD'); clear hz hD'
    have g2 : decide (E = 0) = false := decide_eq_false hne
    have g3 : (E == 0) = false := by simpa using hne
    clear hne
    go_wp2_with (go_at_call 54; refine HC.out.mono ?_; rintro e w1 ⟨rfl, h1, h2, h3⟩; have H1 := Lib.hid (And.intro h1 (And.intro h2 h3)); clear h1 h2 h3)
    go_ret
    exact ⟨by rw [HZ.out.1]; rfl, by rw [HZ.out.2]; exact ⟨S, bn, bs, sv, dat, H1.out.1.loose⟩, H1.out.2.1.mono fun k _ e => by rw [e]; exact HPF.out⟩
end Go.Proofs.Ythffkbcjidbdaaa

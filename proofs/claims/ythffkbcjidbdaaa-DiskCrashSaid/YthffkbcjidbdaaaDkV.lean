/- A disk's Truncate. -/
import Derived.Test.YthffkbcjidbdaaaDkS
namespace Go.Proofs.Ythffkbcjidbdaaa
open Go.RowKit Go.Maps
set_option maxRecDepth 100000

def Dsk.truncE (D : Dsk) (s : ByteArray) (n : Int) : Int := if D.comeE [s] ≠ 0 then D.comeE [s] else match D.now s with | Option.none => 5 | some f => if n < 0 ∨ ((D.file f).data.length : Int) < n then 1 else 0
def Dsk.trunc (D : Dsk) (s : ByteArray) (n : Int) : Dsk := if D.comeE [s] ≠ 0 then D.come else match D.now s with
  | Option.none => D.come
  | some f => if n < 0 ∨ ((D.file f).data.length : Int) < n then D.come else dk.use (dk.setFile D.come f ⟨(D.file f).data.take n.toNat, n.toNat⟩) (D.used - (((D.file f).data.length : Int) - n))
set_option maxHeartbeats 4000000 in
theorem disk.Trunc_any (s : ByteArray) (n : Int) (p : Nat) (D : Dsk) (F : Nat → Prop) (m : Nat) (w : World) (h : DskIn w p D F m) (hs : s.size ≤ maxLen) (hD : D.near) (hl : (D.bytes s).length ≤ 1099511627776) (hn : -9223372036854775808 ≤ n ∧ n ≤ 9223372036854775807) (hu : 0 ≤ D.used ∧ D.used ≤ 2305843009213693952) : Calls Try.prog 32 #[.pointer (some ⟨p, 0, none⟩), .string s, .int .i64 n] w fun e w' => e = .returned (.int .i64 (D.truncE s n)) ∧ DskIn w' p (D.trunc s n) (dk.grow F w w') m ∧ Chg w w' F := by
  obtain ⟨S, bn, bs, sv, dat, h⟩ := h
  have hcome := disk.come_one p D F S m bn bs sv dat s w h hD hs
  have HC := Lib.hid hcome; clear hcome
  have hpF := h.foot.1
  have HPF := Lib.hid hpF; clear hpF
  clear h
  obtain ⟨z, hz⟩ : ∃ z, z = D.truncE s n := ⟨_, rfl⟩
  obtain ⟨D', hD'⟩ : ∃ D', D' = D.trunc s n := ⟨_, rfl⟩
  rw [← hz, ← hD']
  unfold Dsk.truncE at hz
  unfold Dsk.trunc at hD'
  have hcase := D.comeE_le [s]
  obtain ⟨E, hE⟩ : ∃ E, E = D.comeE [s] := ⟨_, rfl⟩
  have hnow : D.come.now = D.now := rfl
  have hfile : D.come.file = D.file := rfl
  have husd : D.come.used = D.used := rfl
  have hlb : (D.come.bytes s).length ≤ 1099511627776 := hl
  obtain ⟨D1, hD1⟩ : ∃ D1, D1 = D.come := ⟨_, rfl⟩
  rw [← hE] at hz hD' hcase HC
  rw [← hD1] at hD' HC hnow hfile husd hlb
  rw [← hnow, ← hfile, ← husd] at hD'
  rw [← husd] at hu
  rw [← hnow, ← hfile] at hz
  clear hnow hfile hD1 hE hD husd hl
  go_enter Try.func32, Try.ntmps32
  rcases hcase with rfl | ⟨hne, -⟩
  · rw [if_neg (by simp)] at hz hD'
    have HZ := Lib.hid (And.intro hz hD'); clear hz hD'
    go_upto_region 4 with (go_at_call 54; refine HC.out.mono ?_; rintro e w1 ⟨rfl, h1, h2, h3⟩; have H1 := Lib.hid (And.intro h1 (And.intro h2 h3)); clear h1 h2 h3)
    have hk := H1.out.1.now.look s hs
    have k6 := H1.out.1.blk.cell 6 (v := .map (some bn)) rfl
    have hpl := H1.out.1.blk.lt
    have hsame : DskIn w1 p D1 (dk.grow F w w1) m ∧ Chg w w1 F := ⟨⟨S, bn, bs, sv, dat, H1.out.1.loose⟩, H1.out.2.1.mono fun k _ e => by rw [e]; exact HPF.out⟩
    have HS1 := Lib.hid hsame; clear hsame
    cases hf : D1.now s with
    | none =>
      rw [hf] at hk
      replace hk : (Instr.lookup 80 (.map (some bn)) (.string s) false).run Try.prog w1 = .ok (.pointer none) w1 := hk
      have hz := HZ.out
      rw [hf] at hz
      have HZ2 := Lib.hid (show z = 5 ∧ D' = D1 from hz); clear hz HZ hf
      go_wp2_with fail
      go_ret
      exact ⟨by rw [HZ2.out.1]; rfl, by rw [HZ2.out.2]; exact HS1.out.1, HS1.out.2⟩
    | some f =>
      rw [hf] at hk
      replace hk : (Instr.lookup 80 (.map (some bn)) (.string s) false).run Try.prog w1 = .ok (.pointer (some ⟨f, 0, none⟩)) w1 := hk
      have hz := HZ.out
      rw [hf] at hz
      unfold Dsk.bytes at hlb
      rw [hf] at hlb
      have hSf := H1.out.1.has f (.inl ⟨s, hf⟩)
      have hfile := H1.out.1.file f hSf
      obtain ⟨l, hll⟩ : ∃ l, l = (D1.file f).data.length := ⟨_, rfl⟩
      replace hlb : (D1.file f).data.length ≤ 1099511627776 := hlb
      rw [← hll] at hlb
      replace hz : z = (if n < 0 ∨ (l : Int) < n then 1 else 0) ∧ D' = if n < 0 ∨ (l : Int) < n then D1 else dk.use (dk.setFile D1 f ⟨(D1.file f).data.take n.toNat, n.toNat⟩) (D1.used - ((l : Int) - n)) := by rw [hll]; exact hz
      have HZ2 := Lib.hid hz; clear hz HZ hf
      obtain ⟨A, c, hA, -⟩ := own_at hfile.2.1
      rw [← hll] at hA
      have d0 := hfile.1.cell 0 (v := dat f) rfl
      rw [hA] at d0
      have hfl := hfile.1.lt
      by_cases hb1 : n < 0
      · have g1 : decide (n < 0) = true := decide_eq_true hb1
        have hz := HZ2.out
        rw [if_pos (.inl hb1), if_pos (.inl hb1)] at hz
        have HZ3 := Lib.hid hz; clear hz hA
        go_wp2_with fail
        go_ret
        exact ⟨by rw [HZ3.out.1]; rfl, by rw [HZ3.out.2]; exact HS1.out.1, HS1.out.2⟩
      · have g1 : decide (n < 0) = false := decide_eq_false hb1
        by_cases hb2 : (l : Int) < n
        · have g2 : decide ((l : Int) < n) = true := decide_eq_true hb2
          have hz := HZ2.out
          rw [if_pos (.inr hb2), if_pos (.inr hb2)] at hz
          have HZ3 := Lib.hid hz; clear hz hA
          go_wp2_with fail
          go_ret
          exact ⟨by rw [HZ3.out.1]; rfl, by rw [HZ3.out.2]; exact HS1.out.1, HS1.out.2⟩
        · have g2 : decide ((l : Int) < n) = false := decide_eq_false hb2
          have hz := HZ2.out
          rw [if_neg (fun h => h.elim hb1 hb2), if_neg (fun h => h.elim hb1 hb2)] at hz
          have HZ3 := Lib.hid (And.intro hz hll); clear hz hll
          go_upto_region 9 with fail
          obtain ⟨k, hkn⟩ : ∃ k : Nat, n = (k : Int) := ⟨n.toNat, by omega⟩
          subst hkn
          have hkl : k ≤ l := by omega
          obtain ⟨used, hus⟩ : ∃ used, used = D1.used := ⟨_, rfl⟩
          have hb0 := H1.out.1.blk
          rw [← hus] at hb0 hu
          have q1 : ∀ y : Later w1 (fun _ => False), y.1.cell? ⟨p, 1, none⟩ = some (.int .i64 used) := fun y => (y.2.blk hb0 id).cell 1 rfl
          have q0 : ∀ y : Later w1 (fun _ => False), y.1.cell? ⟨f, 0, none⟩ = some (.slice A l c) := fun y => by
            have := (y.2.blk hfile.1 id).cell 0 (v := dat f) rfl
            rw [hA] at this
            exact this
          have y1 : w1.drew.cell? ⟨p, 1, none⟩ = some (.int .i64 used) := hb0.cell 1 rfl
          have yz : w1.drew.frozen? ⟨p, 1, none⟩ = false := hb0.frozen 1
          have hdr : w1.drew.heap.size = w1.heap.size := rfl
          have hpd : p < w1.drew.heap.size := hpl
          have hfd : f < w1.drew.heap.size := hfl
          have y0 : w1.drew.cell? ⟨f, 0, none⟩ = some (.slice A l c) := d0
          have hne : f ≠ p := dk.blk_ne hfile.1 H1.out.1.blk (by decide)
          obtain ⟨w2, hw2⟩ : ∃ w2, w2 = (w1.setCell ⟨p, 1, none⟩ (.int .i64 (used - ((l : Int) - (k : Int))))).drew := ⟨_, rfl⟩
          have hc2 : Chg w1 w2 (fun g => g = p) := by rw [hw2]; exact (Chg.setCell _ _ _ _).drew
          have hb2 : Blk w2 p 83 (dk.cells (dk.use D1 (used - ((l : Int) - (k : Int)))) (.map (some bn)) (.map (some bs)) sv) := by rw [hw2]; exact (hb0.set 1 _).drew 1
          have hd2 : DskAt w2 p (dk.use D1 (used - ((l : Int) - (k : Int)))) F m S bn bs sv dat := H1.out.1.scal hc2 hb2 rfl rfl rfl rfl
          have hs2 : w2.heap.size = w1.heap.size := by rw [hw2]; simp
          have hfile2 := hd2.file f hSf
          have x0 := hfile2.1.cell 0 (v := dat f) rfl
          rw [hA] at x0
          have xz := hfile2.1.frozen 0
          obtain ⟨w3, hw3⟩ : ∃ w3, w3 = w2.setCell ⟨f, 0, none⟩ (.slice A k c) := ⟨_, rfl⟩
          have hc3 : Chg w2 w3 (fun g => g = f) := by rw [hw3]; exact Chg.setCell _ _ _ _
          have hb3 := hfile2.1.set 0 (.slice A k c)
          rw [← hw3] at hb3
          have x1 := hb3.cell 1 (v := .int .i64 (((dk.use D1 (used - ((l : Int) - (k : Int)))).file f).safe : Int)) rfl
          have xz1 := hb3.frozen 1
          obtain ⟨w4, hw4⟩ : ∃ w4, w4 = w3.setCell ⟨f, 1, none⟩ (.int .i64 (k : Int)) := ⟨_, rfl⟩
          have hc4 : Chg w3 w4 (fun g => g = f) := by rw [hw4]; exact Chg.setCell _ _ _ _
          have hb4 := hb3.set 1 (.int .i64 (k : Int))
          rw [← hw4] at hb4
          have hc24 : Chg w2 w4 (fun g => g = f) := hc3.trans hc4 fun _ _ q => q
          have hrow := hfile2.2.1
          rw [hA, show ((dk.use D1 (used - ((l : Int) - (k : Int)))).file f).data.length = l from HZ3.out.2.symm] at hrow
          have hcap : l ≤ c := by
            obtain ⟨A9, c9, e9, h9, -⟩ := own_at hrow
            obtain ⟨rfl, rfl⟩ : A = A9 ∧ c = c9 := by simpa using e9
            exact h9
          have hcm : c ≤ maxLen := own_cap hrow
          unfold maxLen at hcm
          have htk : (D1.file f).data.take k = (D1.file f).data.take k := rfl
          have hob : (Value.slice A k c).ownBlock = (Value.slice A l c).ownBlock := by cases A <;> rfl
          have hfa : FileAt w4 f ⟨(D1.file f).data.take k, k⟩ (.slice A k c) := by
            refine ⟨hb4, ?_, fun x hx => hfile2.2.2 x (List.mem_of_mem_take hx)⟩
            have h := dk.row_take hrow hkl
            have e : (u8s (D1.file f).data).take k = u8s ((D1.file f).data.take k) := by unfold u8s; rw [List.map_take]
            rw [show (u8s ((dk.use D1 (used - ((l : Int) - (k : Int)))).file f).data) = u8s (D1.file f).data from rfl, e] at h
            have hlk : ((D1.file f).data.take k).length = k := by rw [List.length_take, ← HZ3.out.2]; omega
            dsimp only
            rw [hlk]
            exact hc24.own h fun g hg e => by subst e; exact hfile2.1.not_row (by decide) hrow (hob ▸ hg)
          have hwr := hd2.write hSf (hc24.mono fun g _ e => .inl e) hfa (.inl (by rw [hA]; exact hob))
          have hfF := (H1.out.1.foot.2.2.2.2 f hSf).1
          have hfin : DskIn w4 p D' (dk.grow F w w4) m ∧ Chg w w4 F := by
            refine ⟨?_, (HS1.out.2.trans (hc2.mono fun g _ e => by rw [e]; exact HPF.out) fun _ _ q => q).trans (hc24.mono fun g _ e => by rw [e]; exact hfF) fun _ _ q => q⟩
            have e : D' = dk.setFile (dk.use D1 (used - ((l : Int) - (k : Int)))) f ⟨(D1.file f).data.take k, k⟩ := by
              rw [HZ3.out.1.2, Int.toNat_natCast, hus]
              rfl
            rw [e]
            exact ⟨S, bn, bs, sv, _, hwr.grown (by rw [hs2, H1.out.2.2]; omega)⟩
          have HFIN := Lib.hid hfin
          clear hfin hwr hfF hfa htk hrow hc24 hc4 hb4 hc3 hb3 hfile2 hd2 hb2 hc2 hb0 hus hA hfile HS1 hSf hne
          have HW := Lib.hid (And.intro hw2 (And.intro hw3 hw4)); clear hw2 hw3 hw4
          have hS0 : later w1 (fun _ => False) w1.drew := later_of ((Chg.refl _ _).drew)
          refine wp_planz 14 (S := fun w0 => ∃ x : Later w1 (fun _ => False), w0 = x.1) (by kernel_rfl) hS0 ?_
          intro hS' K5 hK5
          have HSS := Lib.hid hS'; clear hS' hS0
          refine planz_group [true, true, true, true, true, true, true, false, false, true] [0, 1, 2, 3, 4, 5, 6, 9] 7 (by dsimp only [sel]) (by rfl) rfl (by kernel_rfl) (by kernel_rfl) (by kernel_rfl) HSS.out ?_
          (repeat go_big_quiet_step (fail)); refine wpQuiet_nil ?_
          refine planz_one [false, false, false, false, false, false, false, true] 7 6 (by dsimp only [sel]) (by rfl) rfl (by kernel_rfl) ?_; intro K1 hK1; go_wp2_with fail
          refine ⟨by first | exact HSS.out | exact fun _ => HSS.out, ?_⟩
          refine planz_one [false, false, false, false, false, false, false, false, true] 8 5 (by dsimp only [sel]) (by rfl) rfl (by kernel_rfl) ?_; intro K1 hK1; go_wp2_with fail
          refine ⟨by first | exact HSS.out | exact fun _ => HSS.out, ?_⟩
          refine planz_one [false, false, false, false, false, false, false, false, false, false, true] 10 4 (by dsimp only [sel]) (by rfl) rfl (by kernel_rfl) ?_; intro K1 hK1; go_wp2_with fail
          refine ⟨by first | exact HSS.out | exact fun _ => HSS.out, ?_⟩
          refine planz_one [false, false, false, false, false, false, false, false, false, false, false, true] 11 3 (by dsimp only [sel]) (by rfl) rfl (by kernel_rfl) ?_; intro K1 hK1; go_wp2_with fail
          refine ⟨by first | exact HSS.out | exact fun _ => HSS.out, ?_⟩
          refine planz_one [false, false, false, false, false, false, false, false, false, false, false, false, true] 12 2 (by dsimp only [sel]) (by rfl) rfl (by kernel_rfl) ?_; intro K1 hK1; go_wp2_with fail
          refine ⟨by first | exact HSS.out | exact fun _ => HSS.out, ?_⟩
          refine planz_one [false, false, false, false, false, false, false, false, false, false, false, false, false, true] 13 1 (by dsimp only [sel]) (by rfl) rfl (by kernel_rfl) ?_; intro K1 hK1; go_wp2_with fail
          refine ⟨by first | exact HSS.out | exact fun _ => HSS.out, ?_⟩
          refine planz_one [false, false, false, false, false, false, false, false, false, false, false, false, false, false, true] 14 0 (by dsimp only [sel]) (by rfl) rfl (by kernel_rfl) ?_; intro K1 hK1; go_wp2_with fail
          rw [← HW.out.1]
          refine ⟨fun q => absurd rfl q, ?_⟩
          refine wp_planz_end (by kernel_rfl) ?_
          clear q1 q0 y1 yz y0 hpd hfd hdr
          go_upto_region 11 with fail
          rw [← HW.out.2.1]
          have hfl3 := hfl
          go_wp2_with fail
          rw [← HW.out.2.2]
          go_ret
          exact ⟨by rw [HZ3.out.1.1]; rfl, HFIN.out⟩
  · rw [if_pos hne] at hz hD'
    have HZ := Lib.hid (And.intro hz hD'); clear hz hD'
    have g2 : decide (E = 0) = false := decide_eq_false hne
    have g3 : (E == 0) = false := by simpa using hne
    clear hne
    go_wp2_with (go_at_call 54; refine HC.out.mono ?_; rintro e w1 ⟨rfl, h1, h2, h3⟩; have H1 := Lib.hid (And.intro h1 (And.intro h2 h3)); clear h1 h2 h3)
    go_ret
    exact ⟨by rw [HZ.out.1]; rfl, by rw [HZ.out.2]; exact ⟨S, bn, bs, sv, dat, H1.out.1.loose⟩, H1.out.2.1.mono fun k _ e => by rw [e]; exact HPF.out⟩
end Go.Proofs.Ythffkbcjidbdaaa

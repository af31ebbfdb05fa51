/- A disk's Remove and Rename: printed by wip/gen_dkw.py. -/
import Derived.Test.YthffkbcjidbdaaaDkV
namespace Go.Proofs.Ythffkbcjidbdaaa
open Go.RowKit Go.Maps
set_option maxRecDepth 100000

def Dsk.remE (D : Dsk) (s : ByteArray) : Int := if D.comeE [s] ≠ 0 then D.comeE [s] else match D.now s with | Option.none => 5 | some _ => 0
def Dsk.rem (D : Dsk) (s : ByteArray) : Dsk := if D.comeE [s] ≠ 0 then D.come else match D.now s with
  | Option.none => D.come
  | some f => (dk.use D.come (D.used - ((D.file f).data.length : Int))).lead ⟨s, dk.no, Option.none⟩
set_option maxHeartbeats 4000000 in
theorem disk.Remove_any (s : ByteArray) (p : Nat) (D : Dsk) (F : Nat → Prop) (m : Nat) (w : World) (h : DskIn w p D F m) (hs : s.size ≤ maxLen) (hD : D.near) (hl : (D.bytes s).length ≤ 1099511627776) (hu : 0 ≤ D.used ∧ D.used ≤ 2305843009213693952) (hm : m ≤ 100000) (hsi : D.since.length ≤ 100000) : Calls Try.prog 33 #[.pointer (some ⟨p, 0, none⟩), .string s] w fun e w' => e = .returned (.int .i64 (D.remE s)) ∧ DskIn w' p (D.rem s) (dk.grow F w w') (m + 1) ∧ Chg w w' F := by
  obtain ⟨S, bn, bs, sv, dat, h⟩ := h
  have hcome := disk.come_one p D F S m bn bs sv dat s w h hD hs
  have HC := Lib.hid hcome; clear hcome
  have hpF := h.foot.1
  have HPF := Lib.hid hpF; clear hpF
  clear h
  obtain ⟨z, hz⟩ : ∃ z, z = D.remE s := ⟨_, rfl⟩
  obtain ⟨D', hD'⟩ : ∃ D', D' = D.rem s := ⟨_, rfl⟩
  rw [← hz, ← hD']
  unfold Dsk.remE at hz
  unfold Dsk.rem at hD'
  have hcase := D.comeE_le [s]
  obtain ⟨E, hE⟩ : ∃ E, E = D.comeE [s] := ⟨_, rfl⟩
  have hnow : D.come.now = D.now := rfl
  have hfile : D.come.file = D.file := rfl
  have husd : D.come.used = D.used := rfl
  have hsin : D.come.since = D.since := rfl
  have hlb : (D.come.bytes s).length ≤ 1099511627776 := hl
  obtain ⟨D1, hD1⟩ : ∃ D1, D1 = D.come := ⟨_, rfl⟩
  rw [← hE] at hz hD' hcase HC
  rw [← hD1] at hD' HC hnow hfile husd hlb hsin
  rw [← hnow, ← hfile, ← husd] at hD'
  rw [← husd] at hu
  rw [← hnow] at hz
  rw [← hsin] at hsi
  clear hnow hfile hD1 hE hD husd hl hsin
  go_enter Try.func33, Try.ntmps33
  rcases hcase with rfl | ⟨hne, -⟩
  · rw [if_neg (by simp)] at hz hD'
    have HZ := Lib.hid (And.intro hz hD'); clear hz hD'
    go_upto_region 4 with (go_at_call 54; refine HC.out.mono ?_; rintro e w1 ⟨rfl, h1, h2, h3⟩; have H1 := Lib.hid (And.intro h1 (And.intro h2 h3)); clear h1 h2 h3)
    have hk := H1.out.1.now.look s hs
    have k6 := H1.out.1.blk.cell 6 (v := .map (some bn)) rfl
    have hpl := H1.out.1.blk.lt
    have hsame : DskIn w1 p D1 (dk.grow F w w1) (m + 1) ∧ Chg w w1 F := ⟨⟨S, bn, bs, sv, dat, dk.mono H1.out.1.loose (by omega)⟩, H1.out.2.1.mono fun k _ e => by rw [e]; exact HPF.out⟩
    have HS1 := Lib.hid hsame; clear hsame
    cases hf : D1.now s with
    | none =>
      rw [hf] at hk
      replace hk : (Instr.lookup 80 (.map (some bn)) (.string s) false).run Try.prog w1 = .ok (.pointer none) w1 := hk
      have hz := HZ.out
      rw [hf] at hz
      have HZ2 := Lib.hid (show z = 5 ∧ D' = D1 from hz); clear hz HZ hf
      go_wp2_with fail
      go_ret
      exact ⟨by rw [HZ2.out.1]; rfl, by rw [HZ2.out.2]; exact HS1.out.1, HS1.out.2⟩
    | some f =>
      rw [hf] at hk
      replace hk : (Instr.lookup 80 (.map (some bn)) (.string s) false).run Try.prog w1 = .ok (.pointer (some ⟨f, 0, none⟩)) w1 := hk
      have hz := HZ.out
      rw [hf] at hz
      unfold Dsk.bytes at hlb
      rw [hf] at hlb
      have hSf := H1.out.1.has f (.inl ⟨s, hf⟩)
      have hfile := H1.out.1.file f hSf
      obtain ⟨l, hll⟩ : ∃ l, l = (D1.file f).data.length := ⟨_, rfl⟩
      replace hlb : (D1.file f).data.length ≤ 1099511627776 := hlb
      rw [← hll] at hlb
      replace hz : z = 0 ∧ D' = (dk.use D1 (D1.used - (l : Int))).lead ⟨s, dk.no, Option.none⟩ := by rw [hll]; exact hz
      have HZ2 := Lib.hid (And.intro hz hll); clear hz HZ hf
      obtain ⟨A, c, hA, -⟩ := own_at hfile.2.1
      rw [← hll] at hA
      have d0 := hfile.1.cell 0 (v := dat f) rfl
      rw [hA] at d0
      have hfl := hfile.1.lt
      clear hll
      go_upto_region 7 with fail
      obtain ⟨used, hus⟩ : ∃ used, used = D1.used := ⟨_, rfl⟩
      have hb0 := H1.out.1.blk
      rw [← hus] at hb0 hu
      have q1 : ∀ y : Later w1 (fun _ => False), y.1.cell? ⟨p, 1, none⟩ = some (.int .i64 used) := fun y => (y.2.blk hb0 id).cell 1 rfl
      have q0 : ∀ y : Later w1 (fun _ => False), y.1.cell? ⟨f, 0, none⟩ = some (.slice A l c) := fun y => by
        have := (y.2.blk hfile.1 id).cell 0 (v := dat f) rfl
        rw [hA] at this
        exact this
      have y1 : w1.drew.cell? ⟨p, 1, none⟩ = some (.int .i64 used) := hb0.cell 1 rfl
      have yz : w1.drew.frozen? ⟨p, 1, none⟩ = false := hb0.frozen 1
      have hdr : w1.drew.heap.size = w1.heap.size := rfl
      have hpd : p < w1.drew.heap.size := hpl
      have hfd : f < w1.drew.heap.size := hfl
      have y0 : w1.drew.cell? ⟨f, 0, none⟩ = some (.slice A l c) := d0
      obtain ⟨w2, hw2⟩ : ∃ w2, w2 = (w1.setCell ⟨p, 1, none⟩ (.int .i64 (used - (l : Int)))).drew := ⟨_, rfl⟩
      have hc2 : Chg w1 w2 (fun g => g = p) := by rw [hw2]; exact (Chg.setCell _ _ _ _).drew
      have hb2 : Blk w2 p 83 (dk.cells (dk.use D1 (used - (l : Int))) (.map (some bn)) (.map (some bs)) sv) := by rw [hw2]; exact (hb0.set 1 _).drew 1
      have hd2 : DskAt w2 p (dk.use D1 (used - (l : Int))) F m S bn bs sv dat := H1.out.1.scal hc2 hb2 rfl rfl rfl rfl
      have hs2 : w2.heap.size = w1.heap.size := by rw [hw2]; simp
      have hld := disk.lead_any ⟨s, dk.no, none⟩ p (dk.use D1 (used - (l : Int))) F S m bn bs sv dat w2 hd2 hs (Nat.zero_le _) (fun h => absurd rfl h) (fun g e => by cases e) (by omega) (by show D1.since.length ≤ _; omega)
      have HLD := Lib.hid (And.intro hld (And.intro hc2 hs2)); clear hld hd2 hb2 hc2 hb0 hA hfile hSf hs2
      have HUS := Lib.hid hus; clear hus
      have hS0 : later w1 (fun _ => False) w1.drew := later_of ((Chg.refl _ _).drew)
      refine wp_planz 12 (S := fun w0 => ∃ x : Later w1 (fun _ => False), w0 = x.1) (by kernel_rfl) hS0 ?_
      intro hS' K5 hK5
      have HSS := Lib.hid hS'; clear hS' hS0
      refine planz_group [true, true, true, true, true, true, true] [0, 1, 2, 3, 4, 5, 6] 6 (by dsimp only [sel]) (by rfl) rfl (by kernel_rfl) (by kernel_rfl) (by kernel_rfl) HSS.out ?_
      (repeat go_big_quiet_step (fail)); refine wpQuiet_nil ?_
      refine planz_one [false, false, false, false, false, false, false, true] 7 5 (by dsimp only [sel]) (by rfl) rfl (by kernel_rfl) ?_; intro K1 hK1; go_wp2_with fail
      refine ⟨by first | exact HSS.out | exact fun _ => HSS.out, ?_⟩
      refine planz_one [false, false, false, false, false, false, false, false, true] 8 4 (by dsimp only [sel]) (by rfl) rfl (by kernel_rfl) ?_; intro K1 hK1; go_wp2_with fail
      refine ⟨by first | exact HSS.out | exact fun _ => HSS.out, ?_⟩
      refine planz_one [false, false, false, false, false, false, false, false, false, true] 9 3 (by dsimp only [sel]) (by rfl) rfl (by kernel_rfl) ?_; intro K1 hK1; go_wp2_with fail
      refine ⟨by first | exact HSS.out | exact fun _ => HSS.out, ?_⟩
      refine planz_one [false, false, false, false, false, false, false, false, false, false, true] 10 2 (by dsimp only [sel]) (by rfl) rfl (by kernel_rfl) ?_; intro K1 hK1; go_wp2_with fail
      refine ⟨by first | exact HSS.out | exact fun _ => HSS.out, ?_⟩
      refine planz_one [false, false, false, false, false, false, false, false, false, false, false, true] 11 1 (by dsimp only [sel]) (by rfl) rfl (by kernel_rfl) ?_; intro K1 hK1; go_wp2_with fail
      refine ⟨by first | exact HSS.out | exact fun _ => HSS.out, ?_⟩
      refine planz_one [false, false, false, false, false, false, false, false, false, false, false, false, true] 12 0 (by dsimp only [sel]) (by rfl) rfl (by kernel_rfl) ?_; intro K1 hK1; go_wp2_with fail
      rw [← hw2]
      clear hw2
      refine ⟨fun q => absurd rfl q, ?_⟩
      refine wp_planz_end (by kernel_rfl) ?_
      clear q1 q0 y1 yz y0 hpd hfd hdr
      go_wp2_with fail
      refine HLD.out.1.mono ?_
      rintro e w3 ⟨rfl, ⟨sv', h1⟩, h2⟩
      have H3 := Lib.hid (And.intro h1 h2); clear h1 h2
      go_wp2_with fail
      go_ret
      refine ⟨by rw [HZ2.out.1.1]; rfl, ?_, (HS1.out.2.trans (HLD.out.2.1.mono fun g _ e => by rw [e]; exact HPF.out) fun _ _ q => q).trans H3.out.2 fun _ _ q => q⟩
      rw [HZ2.out.1.2, ← HUS.out]
      exact ⟨S, bn, bs, sv', dat, H3.out.1.grown (by rw [HLD.out.2.2, H1.out.2.2]; omega)⟩
  · rw [if_pos hne] at hz hD'
    have HZ := Lib.hid (And.intro hz hD'); clear hz hD'
    have g2 : decide (E = 0) = false := decide_eq_false hne
    have g3 : (E == 0) = false := by simpa using hne
    clear hne
    go_wp2_with (go_at_call 54; refine HC.out.mono ?_; rintro e w1 ⟨rfl, h1, h2, h3⟩; have H1 := Lib.hid (And.intro h1 (And.intro h2 h3)); clear h1 h2 h3)
    go_ret
    exact ⟨by rw [HZ.out.1]; rfl, by rw [HZ.out.2]; exact ⟨S, bn, bs, sv, dat, dk.mono H1.out.1.loose (by omega)⟩, H1.out.2.1.mono fun k _ e => by rw [e]; exact HPF.out⟩
theorem dk.str_ne {s t : ByteArray} (h : s ≠ t) : (s.toList == t.toList) = false := by
  rw [beq_eq_false_iff_ne]
  intro e
  rw [ByteArray.toList_eq, ByteArray.toList_eq] at e
  exact h (ByteArray.ext (Array.ext' e))
/-- come, of two names that the caller lays. -/
theorem disk.come_two (p : Nat) (D : Dsk) (F S : Nat → Prop) (m bn bs : Nat) (sv : Value) (dat : Nat → Value) (s t : ByteArray) (w : World) (h : DskAt w p D F m S bn bs sv dat) (hD : D.near) (hs : s.size ≤ maxLen) (ht : t.size ≤ maxLen) :
    Calls Try.prog 54 #[.pointer (some ⟨p, 0, none⟩), .slice (some ⟨w.heap.size, 0, none⟩) 2 2] (w.alloc (.cells #[.string s, .string t] 9)) fun e w' => e = .returned (.int .i64 (D.comeE [s, t])) ∧ DskAt w' p D.come F m S bn bs sv dat ∧ Chg w w' (fun k => k = p) ∧ w'.heap.size = w.heap.size + 1 := by
  have hb : Below w.heap.size w (w.alloc (.cells #[.string s, .string t] 9)) := (Below.refl _ _).alloc (Nat.le_refl _) _
  have hp := h.blk.lt
  refine (disk.come_at p D F S m bn bs sv dat _ 2 2 [s, t] _ (h.keep (chg_of (P := fun _ => False) hb) fun _ _ q => q) ((At.new w #[.string s, .string t] 9 (fr := (0, 0)) (n := 2) rfl).congr fun j hj => ?_) (fun b off e => ?_) rfl (by omega) hD (fun u hu => by
    simp only [List.mem_cons, List.not_mem_nil, or_false] at hu
    rcases hu with rfl | rfl
    · exact hs
    · exact ht)).mono ?_
  · have hj' : j = 0 ∨ j = 1 := by omega
    rcases hj' with rfl | rfl <;> rfl
  · have : w.heap.size = b := by simpa using congrArg (fun o => o.map Addr.block) e
    omega
  · rintro e w' ⟨h1, h2, h3, h4⟩
    exact ⟨h1, h2, (chg_of (P := fun k => k = p) hb).trans h3 fun _ _ q => q, by rw [h4]; simp⟩
def Dsk.renE (D : Dsk) (s t : ByteArray) : Int := if D.comeE [s, t] ≠ 0 then D.comeE [s, t] else match D.now s with | Option.none => 5 | some _ => if s = t then 1 else 0
/-- How many bytes are under a name. -/
def Dsk.len (D : Dsk) (s : ByteArray) : Nat := match D.now s with | Option.none => 0 | some f => (D.file f).data.length
def Dsk.ren (D : Dsk) (s t : ByteArray) : Dsk := if D.comeE [s, t] ≠ 0 then D.come else match D.now s with
  | Option.none => D.come
  | some f => if s = t then D.come else (dk.use D.come (D.used - (D.len t : Int))).lead ⟨s, t, some f⟩
theorem dk.use_self (D : Dsk) : dk.use D (D.used - ((0 : Nat) : Int)) = D := by
  unfold dk.use
  rw [show D.used - ((0 : Nat) : Int) = D.used from by omega]
set_option maxHeartbeats 4000000 in
theorem disk.Rename_any (s t : ByteArray) (p : Nat) (D : Dsk) (F : Nat → Prop) (m : Nat) (w : World) (h : DskIn w p D F m) (hs : s.size ≤ maxLen) (ht : t.size ≤ maxLen) (hD : D.near) (hl : (D.bytes t).length ≤ 1099511627776) (hu : 0 ≤ D.used ∧ D.used ≤ 2305843009213693952) (hm : m ≤ 100000) (hsi : D.since.length ≤ 100000) : Calls Try.prog 30 #[.pointer (some ⟨p, 0, none⟩), .string s, .string t] w fun e w' => e = .returned (.int .i64 (D.renE s t)) ∧ DskIn w' p (D.ren s t) (dk.grow F w w') (m + 1) ∧ Chg w w' F := by
  obtain ⟨S, bn, bs, sv, dat, h⟩ := h
  have hcome := disk.come_two p D F S m bn bs sv dat s t w h hD hs ht
  have HC := Lib.hid hcome; clear hcome
  have hpF := h.foot.1
  have HPF := Lib.hid hpF; clear hpF
  clear h
  obtain ⟨z, hz⟩ : ∃ z, z = D.renE s t := ⟨_, rfl⟩
  obtain ⟨D', hD'⟩ : ∃ D', D' = D.ren s t := ⟨_, rfl⟩
  rw [← hz, ← hD']
  unfold Dsk.renE at hz
  unfold Dsk.ren at hD'
  have hcase := D.comeE_le [s, t]
  obtain ⟨E, hE⟩ : ∃ E, E = D.comeE [s, t] := ⟨_, rfl⟩
  have hnow : D.come.now = D.now := rfl
  have hlen : D.come.len t = D.len t := rfl
  have husd : D.come.used = D.used := rfl
  have hsin : D.come.since = D.since := rfl
  have hlb : (D.come.bytes t).length ≤ 1099511627776 := hl
  obtain ⟨D1, hD1⟩ : ∃ D1, D1 = D.come := ⟨_, rfl⟩
  rw [← hE] at hz hD' hcase HC
  rw [← hD1] at hD' HC hnow hlen husd hlb hsin
  rw [← hnow, ← hlen, ← husd] at hD'
  rw [← husd] at hu
  rw [← hnow] at hz
  rw [← hsin] at hsi
  clear hnow hlen hD1 hE hD husd hl hsin
  go_enter Try.func30, Try.ntmps30
  rcases hcase with rfl | ⟨hne, -⟩
  · rw [if_neg (by simp)] at hz hD'
    have HZ := Lib.hid (And.intro hz hD'); clear hz hD'
    go_upto_region 4 with (go_at_call 54; refine HC.out.mono ?_; rintro e w1 ⟨rfl, h1, h2, h3⟩; have H1 := Lib.hid (And.intro h1 (And.intro h2 h3)); clear h1 h2 h3)
    have hk := H1.out.1.now.look s hs
    have hkt := H1.out.1.now.look t ht
    have k6 := H1.out.1.blk.cell 6 (v := .map (some bn)) rfl
    have hpl := H1.out.1.blk.lt
    have hsame : DskIn w1 p D1 (dk.grow F w w1) (m + 1) ∧ Chg w w1 F := ⟨⟨S, bn, bs, sv, dat, dk.mono H1.out.1.loose (by omega)⟩, H1.out.2.1.mono fun k _ e => by rw [e]; exact HPF.out⟩
    have HS1 := Lib.hid hsame; clear hsame
    cases hf : D1.now s with
    | none =>
      rw [hf] at hk
      replace hk : (Instr.lookup 80 (.map (some bn)) (.string s) false).run Try.prog w1 = .ok (.pointer none) w1 := hk
      have hz := HZ.out
      rw [hf] at hz
      have HZ2 := Lib.hid (show z = 5 ∧ D' = D1 from hz); clear hz HZ hf hkt
      go_wp2_with fail
      go_ret
      exact ⟨by rw [HZ2.out.1]; rfl, by rw [HZ2.out.2]; exact HS1.out.1, HS1.out.2⟩
    | some f =>
      rw [hf] at hk
      replace hk : (Instr.lookup 80 (.map (some bn)) (.string s) false).run Try.prog w1 = .ok (.pointer (some ⟨f, 0, none⟩)) w1 := hk
      have hz := HZ.out
      rw [hf] at hz
      replace hz : z = (if s = t then 1 else 0) ∧ D' = if s = t then D1 else (dk.use D1 (D1.used - (D1.len t : Int))).lead ⟨s, t, some f⟩ := hz
      have hSs := H1.out.1.has f (.inl ⟨s, hf⟩)
      have HSS0 := Lib.hid hSs; clear hSs hf HZ
      by_cases hst : s = t
      · rw [if_pos hst, if_pos hst] at hz
        have g2 : (s.toList == t.toList) = true := by rw [hst]; simp
        have HZ2 := Lib.hid hz; clear hz hst hkt
        go_wp2_with fail
        go_ret
        exact ⟨by rw [HZ2.out.1]; rfl, by rw [HZ2.out.2]; exact HS1.out.1, HS1.out.2⟩
      rw [if_neg hst, if_neg hst] at hz
      have g2 : (s.toList == t.toList) = false := dk.str_ne hst
      have HST := Lib.hid hst; clear hst
      unfold Dsk.bytes at hlb
      unfold Dsk.len at hz
      cases hg : D1.now t with
      | none =>
        rw [hg] at hkt hz
        replace hkt : (Instr.lookup 80 (.map (some bn)) (.string t) false).run Try.prog w1 = .ok (.pointer none) w1 := hkt
        replace hz : z = 0 ∧ D' = (dk.use D1 (D1.used - ((0 : Nat) : Int))).lead ⟨s, t, some f⟩ := hz
        rw [dk.use_self] at hz
        have HZ2 := Lib.hid hz; clear hz hg
        have hld := disk.lead_any ⟨s, t, some f⟩ p D1 F S m bn bs sv dat w1 H1.out.1 hs ht (fun _ h => by cases h) (fun g e => by
          have e : f = g := by simpa using e
          rw [← e]
          exact HSS0.out) (by omega) (by omega)
        have HLD := Lib.hid hld; clear hld
        go_wp2_with fail
        refine HLD.out.mono ?_
        rintro e w3 ⟨rfl, ⟨sv', h1⟩, h2⟩
        have H3 := Lib.hid (And.intro h1 h2); clear h1 h2
        go_wp2_with fail
        go_ret
        refine ⟨by rw [HZ2.out.1]; rfl, ?_, HS1.out.2.trans H3.out.2 fun _ _ q => q⟩
        rw [HZ2.out.2]
        exact ⟨S, bn, bs, sv', dat, H3.out.1.grown (by rw [H1.out.2.2]; omega)⟩
      | some g =>
        rw [hg] at hkt hz hlb
        replace hkt : (Instr.lookup 80 (.map (some bn)) (.string t) false).run Try.prog w1 = .ok (.pointer (some ⟨g, 0, none⟩)) w1 := hkt
        have hSf := H1.out.1.has g (.inl ⟨t, hg⟩)
        have hfile := H1.out.1.file g hSf
        obtain ⟨l, hll⟩ : ∃ l, l = (D1.file g).data.length := ⟨_, rfl⟩
        replace hlb : (D1.file g).data.length ≤ 1099511627776 := hlb
        rw [← hll] at hlb
        replace hz : z = 0 ∧ D' = (dk.use D1 (D1.used - (l : Int))).lead ⟨s, t, some f⟩ := by rw [hll]; exact hz
        have HZ2 := Lib.hid (And.intro hz hll); clear hz hg
        obtain ⟨A, c, hA, -⟩ := own_at hfile.2.1
        rw [← hll] at hA
        have d0 := hfile.1.cell 0 (v := dat g) rfl
        rw [hA] at d0
        have hfl := hfile.1.lt
        clear hll
        go_upto_region 11 with fail
        obtain ⟨used, hus⟩ : ∃ used, used = D1.used := ⟨_, rfl⟩
        have hb0 := H1.out.1.blk
        rw [← hus] at hb0 hu
        have q1 : ∀ y : Later w1 (fun _ => False), y.1.cell? ⟨p, 1, none⟩ = some (.int .i64 used) := fun y => (y.2.blk hb0 id).cell 1 rfl
        have q0 : ∀ y : Later w1 (fun _ => False), y.1.cell? ⟨g, 0, none⟩ = some (.slice A l c) := fun y => by
          have := (y.2.blk hfile.1 id).cell 0 (v := dat g) rfl
          rw [hA] at this
          exact this
        have y1 : w1.drew.cell? ⟨p, 1, none⟩ = some (.int .i64 used) := hb0.cell 1 rfl
        have yz : w1.drew.frozen? ⟨p, 1, none⟩ = false := hb0.frozen 1
        have hdr : w1.drew.heap.size = w1.heap.size := rfl
        have hpd : p < w1.drew.heap.size := hpl
        have hfd : g < w1.drew.heap.size := hfl
        have y0 : w1.drew.cell? ⟨g, 0, none⟩ = some (.slice A l c) := d0
        obtain ⟨w2, hw2⟩ : ∃ w2, w2 = (w1.setCell ⟨p, 1, none⟩ (.int .i64 (used - (l : Int)))).drew := ⟨_, rfl⟩
        have hc2 : Chg w1 w2 (fun g => g = p) := by rw [hw2]; exact (Chg.setCell _ _ _ _).drew
        have hb2 : Blk w2 p 83 (dk.cells (dk.use D1 (used - (l : Int))) (.map (some bn)) (.map (some bs)) sv) := by rw [hw2]; exact (hb0.set 1 _).drew 1
        have hd2 : DskAt w2 p (dk.use D1 (used - (l : Int))) F m S bn bs sv dat := H1.out.1.scal hc2 hb2 rfl rfl rfl rfl
        have hs2 : w2.heap.size = w1.heap.size := by rw [hw2]; simp
        have hld := disk.lead_any ⟨s, t, some f⟩ p (dk.use D1 (used - (l : Int))) F S m bn bs sv dat w2 hd2 hs ht (fun _ h => by cases h) (fun g e => by
          have e : f = g := by simpa using e
          rw [← e]
          exact HSS0.out) (by omega) (by show D1.since.length ≤ _; omega)
        have HLD := Lib.hid (And.intro hld (And.intro hc2 hs2)); clear hld hd2 hb2 hc2 hb0 hA hfile hSf hs2
        have HUS := Lib.hid hus; clear hus
        have hS0 : later w1 (fun _ => False) w1.drew := later_of ((Chg.refl _ _).drew)
        refine wp_planz 12 (S := fun w0 => ∃ x : Later w1 (fun _ => False), w0 = x.1) (by kernel_rfl) hS0 ?_
        intro hS' K5 hK5
        have HSS := Lib.hid hS'; clear hS' hS0
        refine planz_group [true, true, true, true, true, true, true] [0, 1, 2, 3, 4, 5, 6] 6 (by dsimp only [sel]) (by rfl) rfl (by kernel_rfl) (by kernel_rfl) (by kernel_rfl) HSS.out ?_
        (repeat go_big_quiet_step (fail)); refine wpQuiet_nil ?_
        refine planz_one [false, false, false, false, false, false, false, true] 7 5 (by dsimp only [sel]) (by rfl) rfl (by kernel_rfl) ?_; intro K1 hK1; go_wp2_with fail
        refine ⟨by first | exact HSS.out | exact fun _ => HSS.out, ?_⟩
        refine planz_one [false, false, false, false, false, false, false, false, true] 8 4 (by dsimp only [sel]) (by rfl) rfl (by kernel_rfl) ?_; intro K1 hK1; go_wp2_with fail
        refine ⟨by first | exact HSS.out | exact fun _ => HSS.out, ?_⟩
        refine planz_one [false, false, false, false, false, false, false, false, false, true] 9 3 (by dsimp only [sel]) (by rfl) rfl (by kernel_rfl) ?_; intro K1 hK1; go_wp2_with fail
        refine ⟨by first | exact HSS.out | exact fun _ => HSS.out, ?_⟩
        refine planz_one [false, false, false, false, false, false, false, false, false, false, true] 10 2 (by dsimp only [sel]) (by rfl) rfl (by kernel_rfl) ?_; intro K1 hK1; go_wp2_with fail
        refine ⟨by first | exact HSS.out | exact fun _ => HSS.out, ?_⟩
        refine planz_one [false, false, false, false, false, false, false, false, false, false, false, true] 11 1 (by dsimp only [sel]) (by rfl) rfl (by kernel_rfl) ?_; intro K1 hK1; go_wp2_with fail
        refine ⟨by first | exact HSS.out | exact fun _ => HSS.out, ?_⟩
        refine planz_one [false, false, false, false, false, false, false, false, false, false, false, false, true] 12 0 (by dsimp only [sel]) (by rfl) rfl (by kernel_rfl) ?_; intro K1 hK1; go_wp2_with fail
        rw [← hw2]
        clear hw2
        refine ⟨fun q => absurd rfl q, ?_⟩
        refine wp_planz_end (by kernel_rfl) ?_
        clear q1 q0 y1 yz y0 hpd hfd hdr
        go_wp2_with fail
        refine HLD.out.1.mono ?_
        rintro e w3 ⟨rfl, ⟨sv', h1⟩, h2⟩
        have H3 := Lib.hid (And.intro h1 h2); clear h1 h2
        go_wp2_with fail
        go_ret
        refine ⟨by rw [HZ2.out.1.1]; rfl, ?_, (HS1.out.2.trans (HLD.out.2.1.mono fun g _ e => by rw [e]; exact HPF.out) fun _ _ q => q).trans H3.out.2 fun _ _ q => q⟩
        rw [HZ2.out.1.2, ← HUS.out]
        exact ⟨S, bn, bs, sv', dat, H3.out.1.grown (by rw [HLD.out.2.2, H1.out.2.2]; omega)⟩
  · rw [if_pos hne] at hz hD'
    have HZ := Lib.hid (And.intro hz hD'); clear hz hD'
    have g2 : decide (E = 0) = false := decide_eq_false hne
    have g3 : (E == 0) = false := by simpa using hne
    clear hne
    go_wp2_with (go_at_call 54; refine HC.out.mono ?_; rintro e w1 ⟨rfl, h1, h2, h3⟩; have H1 := Lib.hid (And.intro h1 (And.intro h2 h3)); clear h1 h2 h3)
    go_ret
    exact ⟨by rw [HZ.out.1]; rfl, by rw [HZ.out.2]; exact ⟨S, bn, bs, sv, dat, dk.mono H1.out.1.loose (by omega)⟩, H1.out.2.1.mono fun k _ e => by rw [e]; exact HPF.out⟩
end Go.Proofs.Ythffkbcjidbdaaa

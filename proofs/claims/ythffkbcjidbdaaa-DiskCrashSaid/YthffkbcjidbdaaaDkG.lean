/- A disk's Append. -/
import Derived.Test.YthffkbcjidbdaaaDkF
namespace Go.Proofs.Ythffkbcjidbdaaa
open Go.RowKit Go.Maps
set_option maxRecDepth 100000

def Dsk.appE (D : Dsk) (s : ByteArray) (b : List Nat) : Int := if D.comeE [s] ≠ 0 then D.comeE [s] else if D.room - D.used < b.length then 4 else 0
/-- A name that leads to file f: it does so already, or f is a new one. -/
def Dsk.with (D : Dsk) (s : ByteArray) (f : Nat) : Dsk := match D.now s with | some _ => D | Option.none => (dk.setFile D f ⟨[], 0⟩).lead ⟨dk.no, s, some f⟩
def dk.use (D : Dsk) (n : Int) : Dsk := { D with used := n }
def Dsk.app (D : Dsk) (s : ByteArray) (b : List Nat) (f : Nat) : Dsk :=
  if D.appE s b ≠ 0 then D.come else dk.use (dk.setFile (D.come.with s f) f ⟨((D.come.with s f).file f).data ++ b, ((D.come.with s f).file f).safe⟩) (D.used + b.length)
/-- The file that a name leads to, or a new one. -/
def Dsk.Leads (D : Dsk) (s : ByteArray) (n f : Nat) : Prop := D.now s = some f ∨ (D.now s = Option.none ∧ n ≤ f)
theorem Dsk.leads_any (D : Dsk) (s : ByteArray) (n : Nat) : ∃ f, D.Leads s n f := by
  cases h : D.now s with
  | none => exact ⟨n, .inr ⟨h, Nat.le_refl _⟩⟩
  | some f => exact ⟨f, .inl h⟩

theorem Dsk.with_some {D : Dsk} {s : ByteArray} {f g : Nat} (h : D.now s = some g) : D.with s f = D := by unfold Dsk.with; rw [h]
theorem Dsk.with_none {D : Dsk} {s : ByteArray} {f : Nat} (h : D.now s = Option.none) : D.with s f = (dk.setFile D f ⟨[], 0⟩).lead ⟨dk.no, s, some f⟩ := by unfold Dsk.with; rw [h]
theorem Dsk.with_used (D : Dsk) (s : ByteArray) (f : Nat) : (D.with s f).used = D.used := by unfold Dsk.with; split <;> rfl

set_option maxHeartbeats 4000000 in
theorem disk.App_all (s : ByteArray) (X : Option Addr) (n c : Nat) (b : List Nat) (p : Nat) (D : Dsk) (F : Nat → Prop) (m : Nat) (w : World) (h : DskIn w p D F m) (hs : s.size ≤ maxLen) (hD : D.near) (hat : At w X n (byteAt b)) (hbl : b.length = n) (hb : ∀ x ∈ b, x < 256) (hX : ∀ k off, X = some ⟨k, off, none⟩ → 0 < n → ¬ F k)
    (hru : 0 ≤ D.used ∧ D.used ≤ 2305843009213693952 ∧ 0 ≤ D.room ∧ D.room ≤ 1099511627776) (hn : n ≤ 4294967296) (hl : (D.bytes s).length ≤ 1099511627776) (hm : m ≤ 100000) (hsi : D.since.length ≤ 100000) :
    Calls Try.prog 22 #[.pointer (some ⟨p, 0, none⟩), .string s, .slice X n c] w fun e w' => e = .returned (.int .i64 (D.appE s b)) ∧ (∃ f, D.Leads s w.heap.size f ∧ DskIn w' p (D.app s b f) (dk.grow F w w') (m + 1)) ∧ Chg w w' F := by
  obtain ⟨S, bn, bs, sv, dat, h⟩ := h
  have hcome := disk.come_one p D F S m bn bs sv dat s w h hD hs
  have HC := Lib.hid hcome; clear hcome
  have HFT := Lib.hid (And.intro h.foot.1 h.lt)
  have HAT := Lib.hid (And.intro hat (And.intro hb (And.intro hX (And.intro hbl hl)))); clear hat hb hX h hl
  obtain ⟨z, hz⟩ : ∃ z, z = D.appE s b := ⟨_, rfl⟩
  have happ : ∀ f, D.app s b f = if z ≠ 0 then D.come else dk.use (dk.setFile (D.come.with s f) f ⟨((D.come.with s f).file f).data ++ b, ((D.come.with s f).file f).safe⟩) (D.used + b.length) := fun f => by rw [hz]; rfl
  rw [← hz]
  unfold Dsk.appE at hz
  have hcase := D.comeE_le [s]
  obtain ⟨E, hE⟩ : ∃ E, E = D.comeE [s] := ⟨_, rfl⟩
  rw [← hE] at hz hcase HC
  rw [hbl] at hz
  have HAPP := Lib.hid happ; clear happ
  have HNOW := Lib.hid (show D.come.now = D.now ∧ D.come.room = D.room ∧ D.come.used = D.used ∧ D.come.since = D.since ∧ D.come.file = D.file from ⟨rfl, rfl, rfl, rfl, rfl⟩)
  obtain ⟨D1, hD1⟩ : ∃ D1, D1 = D.come := ⟨_, rfl⟩
  rw [← hD1] at HAPP HC HNOW
  obtain ⟨room, hroom⟩ : ∃ room, room = D.room := ⟨_, rfl⟩
  obtain ⟨used, hused⟩ : ∃ used, used = D.used := ⟨_, rfl⟩
  rw [← hroom, ← hused] at hz hru HNOW
  rw [← hused] at HAPP
  have HRU := Lib.hid (And.intro hroom (And.intro hused hsi)); clear hroom hused hsi
  clear hD1 hE hD hbl
  go_enter Try.func22, Try.ntmps22
  rcases hcase with rfl | ⟨hne, -⟩
  · rw [if_neg (by simp)] at hz
    go_upto_region 4 with (go_at_call 54; refine HC.out.mono ?_; rintro e w1 ⟨rfl, h1, h2, h3⟩; have H1 := Lib.hid (And.intro h1 (And.intro h2 h3)); clear h1 h2 h3)
    have k0 := H1.out.1.blk.cell 0 rfl
    have k1 := H1.out.1.blk.cell 1 rfl
    rw [HNOW.out.2.1] at k0
    rw [HNOW.out.2.2.1] at k1
    have hpl := H1.out.1.blk.lt
    have hwr : (room - used).toNat = (room - used).toNat := rfl
    clear hwr
    by_cases hfull : room - used < (n : Int)
    · rw [if_pos hfull] at hz
      have HZ := Lib.hid hz; clear hz
      have hd : decide (room - used < (n : Int)) = true := decide_eq_true hfull
      go_wp2_with fail
      go_quiet (fail)
      go_wp2_with fail
      go_ret
      have hk := H1.out.1.keep ((Chg.refl w1 (fun _ => False)).drewN nq) fun _ _ q => q
      obtain ⟨f, hf⟩ := D.leads_any s w.heap.size
      refine ⟨by rw [HZ.out]; rfl, ⟨f, hf, ?_⟩, (H1.out.2.1.drewN nq).mono fun k _ e => by rw [e]; exact HFT.out.1⟩
      rw [HAPP.out f, if_pos (by rw [HZ.out]; decide)]
      exact ⟨S, bn, bs, sv, dat, dk.mono hk.loose (by omega)⟩
    · rw [if_neg hfull] at hz
      have HZ := Lib.hid hz; clear hz
      have hd : decide (room - used < (n : Int)) = false := decide_eq_false hfull
      go_wp2_with fail
      go_quiet (fail)
      go_upto_region 6 with fail
      obtain ⟨w2, hw2⟩ : ∃ w2, w2 = w1.drewN nq := ⟨_, rfl⟩
      rw [← hw2]
      have hd2 : DskAt w2 p D1 F m S bn bs sv dat := by rw [hw2]; exact H1.out.1.keep ((Chg.refl w1 (fun _ => False)).drewN nq) fun _ _ q => q
      have hc2 : Chg w w2 (fun k => k = p) := by rw [hw2]; exact H1.out.2.1.drewN nq
      have hs2 : w2.heap.size = w.heap.size + 1 := by rw [hw2]; exact H1.out.2.2
      have H2 := Lib.hid (And.intro hd2 (And.intro hc2 hs2)); clear hd2 hc2 hs2 hw2 H1 k0 k1 hpl hd
      have hk := H2.out.1.now.look s hs
      have k6 := H2.out.1.blk.cell 6 (v := .map (some bn)) rfl
      have hpl := H2.out.1.blk.lt
      obtain ⟨o, ho⟩ : ∃ o, o = D1.now s := ⟨_, rfl⟩
      rw [← ho] at hk
      obtain ⟨q, hq⟩ : ∃ q : Option Addr, q = o.map fun b => ⟨b, 0, none⟩ := ⟨_, rfl⟩
      replace hk : (Instr.lookup 80 (.map (some bn)) (.string s) false).run Try.prog w2 = .ok (.pointer q) w2 := by rw [hq]; exact hk
      have HO := Lib.hid (And.intro ho hq); clear ho hq
      have hsum : used + (n : Int) ≤ room := by omega
      clear hfull
      go_upto_if 35 with fail
      go_cut [8] from 34 (fun s8 wx => ∃ f S2 sv2 dat2, s8 = .pointer (some ⟨f, 0, none⟩) ∧ D.Leads s w.heap.size f ∧ DskAt wx p (D1.with s f) (dk.grow F w wx) (m + 1) S2 bn bs sv2 dat2 ∧ S2 f ∧ Chg w wx F ∧ ((D1.with s f).file f).data.length ≤ 1099511627776)
      case first =>
        cases hoc : o with
        | some f =>
          have ho := HO.out
          rw [hoc] at ho
          have hq : q = some ⟨f, 0, none⟩ := ho.2
          subst hq
          have HF := Lib.hid ho.1.symm; clear ho hoc HO
          go_wp2_with fail
          go_meet
          case rel =>
            have hw : D1.with s f = D1 := Dsk.with_some HF.out
            have hnow : D.now s = some f := by rw [← HNOW.out.1]; exact HF.out
            refine ⟨f, S, sv, dat, rfl, .inl hnow, by rw [hw]; exact dk.mono H2.out.1.loose (by omega), H2.out.1.has f (.inl ⟨s, HF.out⟩), H2.out.2.1.mono fun k _ e => by rw [e]; exact HFT.out.1, ?_⟩
            rw [hw, HNOW.out.2.2.2.2]
            have := HAT.out.2.2.2.2
            unfold Dsk.bytes at this
            rw [hnow] at this
            exact this
        | none =>
          have ho := HO.out
          rw [hoc] at ho
          have hq : q = none := ho.2
          subst hq
          have HF := Lib.hid ho.1.symm; clear ho hoc HO
          obtain ⟨f, hf⟩ : ∃ f, f = w2.heap.size := ⟨_, rfl⟩
          obtain ⟨w3, hw3⟩ : ∃ w3, w3 = w2.alloc (.cells #[.slice none 0 0, .int .i64 0] 86) := ⟨_, rfl⟩
          have hbeg := H2.out.1.begin
          rw [← hw3, ← hf] at hbeg
          have hlead := disk.lead_any ⟨dk.no, s, some f⟩ p _ _ _ m bn bs sv _ w3 hbeg (Nat.zero_le _) hs (fun _ => by simp) (fun g hg => .inr (by simpa using hg.symm)) (by omega) (by have := HRU.out.2.2; rw [← HNOW.out.2.2.2.1] at this; exact Nat.le_trans this (by omega))
          have HL := Lib.hid hlead; clear hlead hbeg
          have hb3 : Below w2.heap.size w2 w3 := by rw [hw3]; exact (Below.refl _ _).alloc (Nat.le_refl _) _
          have HW3 := Lib.hid (And.intro hf hb3)
          clear hb3
          go_wp2_with (go_at_call 55; rw [← hw3, ← hf]; refine HL.out.mono ?_; rintro e w4 ⟨rfl, ⟨sv2, h1⟩, h2⟩; have H4 := Lib.hid (And.intro h1 h2); clear h1 h2)
          go_meet
          case rel =>
            have hf := HW3.out.1
            have hs2 := H2.out.2.2
            have hs3 := HW3.out.2.size
            have hgr : ∀ k, dk.grow F w2 w3 k → F k ∨ w.heap.size ≤ k := fun k hk => hk.1.imp id fun q => by omega
            refine ⟨f, fun g => S g ∨ g = f, sv2, dk.setDat dat f (.slice none 0 0), by rw [hf], .inr ⟨by rw [← HNOW.out.1]; exact HF.out, by omega⟩, ?_, Or.inr rfl, ?_, ?_⟩
            · rw [Dsk.with_none HF.out]
              exact H4.out.1.wide (fun k hk => ⟨hk.1.elim (hgr k) fun q => Or.inr (by omega), hk.2⟩) fun _ hk => hk.2
            · refine ((H2.out.2.1.mono (Q := F) fun k _ e => by rw [e]; exact HFT.out.1).trans (chg_of (P := F) HW3.out.2) fun _ _ q => q).trans H4.out.2 fun k hk q => ?_
              exact (hgr k q).resolve_right (by omega)
            · rw [Dsk.with_none HF.out]
              show (if f = f then (⟨[], 0⟩ : FileV) else _).data.length ≤ _
              rw [if_pos rfl]
              exact Nat.zero_le _
      case rest =>
        obtain ⟨f, S2, sv2, dat2, rfl, hL, hd3, hSf, hcg, hlen⟩ := hcut
        obtain ⟨D2, hD2⟩ : ∃ D2, D2 = D1.with s f := ⟨_, rfl⟩
        rw [← hD2] at hd3 hlen
        have hu2 : D2.used = used := by rw [hD2, Dsk.with_used]; exact HNOW.out.2.2.1
        have hfile := hd3.file f hSf
        obtain ⟨l, hl⟩ : ∃ l, l = (D2.file f).data.length := ⟨_, rfl⟩
        rw [← hl] at hlen
        obtain ⟨A, cc, hA, -⟩ := own_at hfile.2.1
        rw [← hl] at hA
        have hrow := hfile.2.1
        rw [hA, ← hl] at hrow
        have d0 := hfile.1.cell 0 (v := dat2 f) rfl
        rw [hA] at d0
        have hfl := hfile.1.lt
        have hpl3 := hd3.blk.lt
        have hXg : ∀ k off, X = some ⟨k, off, none⟩ → 0 < n → ¬ dk.grow F w wc k := fun k off e h0 hg => by
          obtain ⟨b2, o2, e2, hb2, -⟩ := HAT.out.1 h0
          rw [e] at e2
          obtain rfl : k = b2 := by simpa using congrArg (fun o => o.map Addr.block) e2
          rcases hg.1 with hg | hg
          · exact HAT.out.2.2.1 _ _ e h0 hg
          · omega
        have hat3 : At wc X n (byteAt b) := hcg.at' HAT.out.1 fun h0 k off e hF => HAT.out.2.2.1 k off e h0 hF
        obtain ⟨i0, hi, hz0, hz1, hz2⟩ := info_parts infoByte
        have HR := Lib.hid (And.intro hrow (And.intro hat3 (And.intro hd3 (And.intro hSf (And.intro hcg (And.intro hL (And.intro hD2 (And.intro hu2 (And.intro hl hA)))))))))
        clear hrow hat3 hd3 hSf hcg hL hD2 hu2 hl hA hfile hXg
        go_upto_region 11 with (at_builtin; go_loud (refine wpList_app2 _ rfl (.tmp 47) (.tmp 48) 34 rfl 0 5 i0 _ 1 1 Try.underlying34 hi hz0 hz1 hz2 rfl (by decide) _ l _ rfl HR.out.1 X n c (byteAt b) rfl (by rw [Nat.mul_one]; exact HR.out.2.1) (fun j _ => byteAt_one _ j) (by unfold maxLen; omega) (by omega) (Nat.zero_le _) ?_); intro v' w4 hown4 hg4 hl4; rw [byteAt_cells_n _ _ HAT.out.2.2.2.1, ← u8s_append] at hown4; obtain ⟨A4, c4, rfl, -⟩ := own_at hown4; have H4 := Lib.hid (And.intro hown4 (And.intro (Chg.grown hg4) hl4)); clear hown4 hg4 hl4; have hfl4 := Nat.lt_of_lt_of_le hfl H4.out.2.1.size; have d4 := (H4.out.2.1.blk (HR.out.2.2.1.file f HR.out.2.2.2.1).1 (fun e => (HR.out.2.2.1.file f HR.out.2.2.2.1).1.not_row (by decide) HR.out.1 e)).cell 0 (v := dat2 f) rfl; have z4 := (H4.out.2.1.blk (HR.out.2.2.1.file f HR.out.2.2.2.1).1 (fun e => (HR.out.2.2.1.file f HR.out.2.2.2.1).1.not_row (by decide) HR.out.1 e)).frozen 0)
        obtain ⟨w5, hw5⟩ : ∃ w5, w5 = w4.setCell ⟨f, 0, none⟩ (.slice A4 (l + n) c4) := ⟨_, rfl⟩
        rw [← hw5]
        obtain ⟨hrow, hat3, hd3, hSf, hcg, hL, hD2, hu2, hl, hA⟩ := HR.out
        have hfile := hd3.file f hSf
        have hk4 := H4.out.2.1.blk hfile.1 fun e => hfile.1.not_row (by decide) hrow e
        have hk5 : Blk w5 f 86 #[.slice A4 (l + n) c4, .int .i64 ((D2.file f).safe : Int)] := by rw [hw5]; exact hk4.set 0 _
        have hc45 : Chg w4 w5 (fun k => k = f) := by rw [hw5]; exact Chg.setCell _ _ _ _
        have hown5 := hc45.own H4.out.1 fun k hk e => by subst e; exact hk4.not_row (by decide) H4.out.1 hk
        have hfa : FileAt w5 f ⟨(D2.file f).data ++ b, (D2.file f).safe⟩ (.slice A4 (l + n) c4) := by
          refine ⟨hk5, ?_, fun x hx => (List.mem_append.1 hx).elim (hfile.2.2 x) (HAT.out.2.1 x)⟩
          show w5.ownsRow 0 _ 1 _ ((D2.file f).data ++ b).length (u8s ((D2.file f).data ++ b))
          rw [List.length_append, ← hl, HAT.out.2.2.2.1]
          exact hown5
        have hc35 : Chg wc w5 (fun k => k = f ∨ (dat2 f).ownBlock = some k) := by
          rw [hA]
          exact (H4.out.2.1.mono fun _ _ q => .inr q).trans hc45 fun _ _ q => .inl q
        have hwr := hd3.write hSf hc35 hfa (by
          rw [hA]
          rcases H4.out.2.2 with e | e
          · exact .inl e
          · exact .inr ⟨_, e, Nat.le_refl _⟩)
        have hfF := hd3.foot.2.2.2.2 f hSf
        have hin : ∀ k, k < w.heap.size → (k = f ∨ (dat2 f).ownBlock = some k) → F k := fun k hk hq => by
          have hg : dk.grow F w wc k := by
            rcases hq with rfl | hq
            · exact hfF.1
            · exact hfF.2 k hq
          exact hg.1.resolve_right (by omega)
        have hcw5 := hcg.trans hc35 hin
        have k1 := hwr.blk.cell 1 (v := .int .i64 D2.used) rfl
        rw [hu2] at k1
        have z1 := hwr.blk.frozen 1
        have hpl5 := hwr.blk.lt
        obtain ⟨w6, hw6⟩ : ∃ w6, w6 = w5.setCell ⟨p, 1, none⟩ (.int .i64 (used + (n : Int))) := ⟨_, rfl⟩
        have hc6 : Chg w5 w6 (fun k => k = p) := by rw [hw6]; exact Chg.setCell _ _ _ _
        have hb6 := hwr.blk.set 1 (.int .i64 (used + (n : Int)))
        rw [← hw6] at hb6
        have hsc : DskAt w6 p (dk.use (dk.setFile D2 f ⟨(D2.file f).data ++ b, (D2.file f).safe⟩) (used + (n : Int))) _ (m + 1) S2 bn bs sv2 _ := hwr.scal hc6 hb6 rfl rfl rfl rfl
        have hfin : DskIn w6 p (D.app s b f) (dk.grow F w w6) (m + 1) := by
          rw [HAPP.out f, if_neg (by rw [HZ.out]; simp), ← hD2, HAT.out.2.2.2.1]
          refine ⟨S2, bn, bs, sv2, _, hsc.wide (fun k hk => ⟨?_, hsc.lt k hk⟩) fun _ hk => hk.2⟩
          rcases hk.1 with hk | hk
          · exact hk.1
          · have := hcg.size
            exact .inr (by omega)
        have hcf : Chg w w6 F := hcw5.trans hc6 fun k _ e => by rw [e]; exact HFT.out.1
        have HFIN := Lib.hid (And.intro hL (And.intro hfin hcf))
        clear hrow hat3 hd3 hSf hcg hL hD2 hu2 hl hA hfile hk4 hk5 hc45 hown5 hfa hc35 hwr hfF hin hcw5 hc6 hb6 hsc hfin hcf hw5 d0 d4 z4 HR H4 hi hz0 hz1 hz2
        go_wp2_with fail
        rw [← hw6]
        clear hw6
        go_ret
        exact ⟨by rw [HZ.out]; rfl, ⟨f, HFIN.out.1, HFIN.out.2.1⟩, HFIN.out.2.2⟩
  · rw [if_pos hne] at hz
    have HZ := Lib.hid hz; clear hz
    have g2 : decide (E = 0) = false := decide_eq_false hne
    have g3 : (E == 0) = false := by simpa using hne
    have HNE := Lib.hid hne; clear hne
    go_wp2_with (go_at_call 54; refine HC.out.mono ?_; rintro e w1 ⟨rfl, h1, h2, h3⟩; have H1 := Lib.hid (And.intro h1 (And.intro h2 h3)); clear h1 h2 h3)
    go_ret
    obtain ⟨f, hf⟩ := D.leads_any s w.heap.size
    refine ⟨by rw [HZ.out]; rfl, ⟨f, hf, ?_⟩, H1.out.2.1.mono fun k _ e => by rw [e]; exact HFT.out.1⟩
    rw [HAPP.out f, if_pos (by rw [HZ.out]; exact HNE.out)]
    exact ⟨S, bn, bs, sv, dat, dk.mono H1.out.1.loose (by omega)⟩
theorem disk.App_any (s : ByteArray) (X : Option Addr) (n c : Nat) (b : List Nat) (p : Nat) (D : Dsk) (F : Nat → Prop) (m : Nat) (w : World) (h : DskIn w p D F m) (hs : s.size ≤ maxLen) (hD : D.near) (hat : At w X n (byteAt b)) (hbl : b.length = n) (hb : ∀ x ∈ b, x < 256) (hX : ∀ k off, X = some ⟨k, off, none⟩ → 0 < n → ¬ F k)
    (hru : 0 ≤ D.used ∧ D.used ≤ D.room ∧ D.room ≤ 1099511627776) (hn : n ≤ 4294967296) (hl : (D.bytes s).length ≤ 1099511627776) (hm : m ≤ 100000) (hsi : D.since.length ≤ 100000) :
    Calls Try.prog 22 #[.pointer (some ⟨p, 0, none⟩), .string s, .slice X n c] w fun e w' => e = .returned (.int .i64 (D.appE s b)) ∧ (∃ f, D.Leads s w.heap.size f ∧ DskIn w' p (D.app s b f) (dk.grow F w w') (m + 1)) ∧ Chg w w' F :=
  disk.App_all s X n c b p D F m w h hs hD hat hbl hb hX ⟨hru.1, by have := hru.2; omega, by have := hru.2; omega, hru.2.2⟩ hn hl hm hsi
end Go.Proofs.Ythffkbcjidbdaaa

/- A disk's SyncDir. -/
import Derived.Test.YthffkbcjidbdaaaDkG
namespace Go.Proofs.Ythffkbcjidbdaaa
open Go.RowKit Go.Maps
set_option maxRecDepth 100000

theorem dk.row_get {l : List DAct} {k : Nat} {a : DAct} (h : l[k]? = some a) (j : Nat) (hj : j < 3) : (dk.row l)[k * 3 + j]? = a.cells[j]? := by
  induction l generalizing k with
  | nil => simp at h
  | cons b l ih =>
    have e : dk.row (b :: l) = b.cells ++ dk.row l := rfl
    have hb : b.cells.length = 3 := rfl
    rw [e]
    cases k with
    | zero =>
      have hab : b = a := by simpa using h
      rw [List.getElem?_append_left (by omega), hab, Nat.zero_mul, Nat.zero_add]
    | succ k =>
      rw [List.getElem?_append_right (by omega), hb, show (k + 1) * 3 + j - 3 = k * 3 + j from by omega]
      exact ih (by simpa using h)
/-- Acts done on names, one after another. -/
def dk.run (l : DNames) (xs : List DAct) : DNames := xs.foldl (fun l a => a.on l) l
theorem dk.run_snoc (l : DNames) (xs : List DAct) (a : DAct) : dk.run l (xs ++ [a]) = a.on (dk.run l xs) := by unfold dk.run; simp
theorem dk.on_has {a : DAct} {l : DNames} {s : ByteArray} {f : Nat} (h : a.on l s = some f) : (∃ u, l u = some f) ∨ a.f = some f := by
  have h1 : ∀ u, (if a.fr = dk.no then l else dk.put l a.fr Option.none) u = some f → ∃ u, l u = some f := fun u hu => by
    by_cases e : a.fr = dk.no
    · rw [if_pos e] at hu
      exact ⟨u, hu⟩
    · rw [if_neg e] at hu
      unfold dk.put at hu
      split at hu
      · cases hu
      · exact ⟨u, hu⟩
  unfold DAct.on at h
  by_cases e : a.to = dk.no
  · rw [if_pos e] at h
    exact .inl (h1 s h)
  · rw [if_neg e] at h
    have h' : (if s = a.to then a.f else (if a.fr = dk.no then l else dk.put l a.fr Option.none) s) = some f := h
    split at h'
    · exact .inr h'
    · exact .inl (h1 s h')
theorem dk.run_has {xs : List DAct} : ∀ {l : DNames} {s : ByteArray} {f : Nat}, dk.run l xs s = some f → (∃ u, l u = some f) ∨ ∃ a ∈ xs, a.f = some f := by
  induction xs with
  | nil => intro l s f h; exact .inl ⟨s, h⟩
  | cons a xs ih =>
    intro l s f h
    have h : dk.run (a.on l) xs s = some f := h
    rcases ih h with ⟨u, hu⟩ | ⟨b, hb, e⟩
    · rcases dk.on_has hu with hh | hh
      · exact .inl hh
      · exact .inr ⟨a, by simp, hh⟩
    · exact .inr ⟨b, by simp [hb], e⟩
/-- Acts that may be done. -/
def dk.fine (xs : List DAct) : Prop := ∀ a ∈ xs, a.fr.size ≤ maxLen ∧ a.to.size ≤ maxLen ∧ (a.to ≠ dk.no → a.f ≠ Option.none)
def Dsk.dir (D : Dsk) : Dsk := if D.comeE [] ≠ 0 then D.come else { D.come with safe := dk.run D.safe D.since, since := [] }
set_option maxHeartbeats 4000000 in
theorem disk.SyncDir_all (p : Nat) (D : Dsk) (F : Nat → Prop) (m : Nat) (w : World) (h : DskIn w p D F m) (hD : D.near) (hfine : dk.fine D.since) (hm : m ≤ 100000) (hsi : D.since.length ≤ 100000) : Calls Try.prog 24 #[.pointer (some ⟨p, 0, none⟩)] w fun e w' => e = .returned (.int .i64 (D.comeE [])) ∧ DskIn w' p D.dir (dk.grow F w w') (if D.comeE [] = 0 then m + D.since.length else m) ∧ Chg w w' F := by
  obtain ⟨S, bn, bs, sv, dat, h⟩ := h
  have hcome := disk.come_at p D F S m bn bs sv dat none 0 0 [] w h (fun h0 => absurd h0 (by omega)) (fun b off e => by cases e) rfl (by omega) hD (fun s hs => by cases hs)
  have HC := Lib.hid hcome; clear hcome
  have HPF := Lib.hid h.foot; clear h
  have hcase := D.comeE_le []
  have hdir : D.dir = if D.comeE [] ≠ 0 then D.come else { D.come with safe := dk.run D.come.safe D.come.since, since := [] } := rfl
  have hlen : D.come.since.length = D.since.length := rfl
  rw [← hlen] at hsi ⊢
  have hfine : dk.fine D.come.since := hfine
  obtain ⟨E, hE⟩ : ∃ E, E = D.comeE [] := ⟨_, rfl⟩
  obtain ⟨D', hD'⟩ : ∃ D', D' = D.dir := ⟨_, rfl⟩
  obtain ⟨D1, hD1⟩ : ∃ D1, D1 = D.come := ⟨_, rfl⟩
  rw [← hE] at hdir hcase HC ⊢
  rw [← hD'] at hdir ⊢
  rw [← hD1] at hdir HC hlen hfine hsi ⊢
  have hmn := eql_map_nil Try.underlying80 (some bs)
  simp only [Option.isNone_some] at hmn
  clear hE hD' hD1 hlen hD
  go_enter Try.func24, Try.ntmps24
  rcases hcase with rfl | ⟨hne, -⟩
  · rw [if_neg (by simp)] at hdir
    have HD := Lib.hid (And.intro hdir hfine); clear hdir hfine
    go_upto_region 4 with (go_at_call 54; refine HC.out.mono ?_; rintro e w1 ⟨rfl, h1, h2, h3⟩; have H1 := Lib.hid (And.intro h1 (And.intro h2 h3)); clear h1 h2 h3)
    have k7 := H1.out.1.blk.cell 7 (v := .map (some bs)) rfl
    have hpl := H1.out.1.blk.lt
    go_upto_region 6 with fail
    obtain ⟨n, hn⟩ : ∃ n, n = D1.since.length := ⟨_, rfl⟩
    rw [← hn] at hsi
    have hrow := H1.out.1.row
    have k8 := H1.out.1.blk.cell 8 (v := sv) rfl
    obtain ⟨A, c, hsv, hcap, hat⟩ := own_at hrow
    rw [← hn] at hsv hat hcap
    rw [hsv] at k8
    obtain ⟨N0, hN0, hg0⟩ := H1.out.1.safe
    have hpb := hg0.not_blk H1.out.1.blk
    have HAT := Lib.hid (And.intro hat (And.intro hn (And.intro hsv (And.intro hN0 (And.intro hg0 hrow))))); clear hat hn hsv hN0 hg0 hrow
    go_wp2_with fail
    go_loopw [25] (fun i wx => ∃ k N : Nat, k ≤ n ∧ i = .int .i64 (k : Int) ∧ N ≤ m + k ∧ GM strKey wx bs N (fun s => (dk.run D1.safe (D1.since.take k) s).map dk.ptr) ∧ Chg w1 wx (fun b => b = bs)) (fun i _ => n - (intOf i).toNat)
    case atStart => exact ⟨0, N0, by omega, rfl, HAT.out.2.2.2.1, HAT.out.2.2.2.2.1, Chg.refl _ _⟩
    case round =>
      obtain ⟨k, N, hk, rfl, hN, hg, hc⟩ := hrel
      have HG := Lib.hid (And.intro hg hc); clear hg hc
      by_cases hlt : k < n
      · have hlt' : (k : Int) < (n : Int) := by omega
        obtain ⟨a, ha⟩ : ∃ a, D1.since[k]? = some a := ⟨_, List.getElem?_eq_getElem (by rw [← HAT.out.2.1]; exact hlt)⟩
        have hrl : sv.ownBlock ≠ some bs := fun e => dk.row_map HAT.out.2.2.2.2.2 HAT.out.2.2.2.2.1 (by rw [e])
        have hatr : At wr A (n * 3) (fun j => (dk.row D1.since).getD j undef) := HG.out.2.at' HAT.out.1 fun _ b off e hb => hrl (by rw [HAT.out.2.2.1, e, hb]; rfl)
        obtain ⟨q, hq⟩ : ∃ q : Option Addr, q = a.f.map fun b => ⟨b, 0, none⟩ := ⟨_, rfl⟩
        obtain ⟨b2, o2, rfl, hb2, hcel⟩ := hatr (by omega)
        have hget := fun j (hj : j < 3) => dk.row_get ha j hj
        have e0 : wr.cell? ⟨b2, o2 + k * 3, none⟩ = some (.string a.fr) := (hcel (k * 3) (by omega)).trans (by dsimp only; rw [List.getD_eq_getElem?_getD, show k * 3 = k * 3 + 0 from rfl, hget 0 (by omega)]; rfl)
        have e1 : wr.cell? ⟨b2, o2 + k * 3 + 1, none⟩ = some (.string a.to) := (hcel (k * 3 + 1) (by omega)).trans (by dsimp only; rw [List.getD_eq_getElem?_getD, hget 1 (by omega)]; rfl)
        have e2 : wr.cell? ⟨b2, o2 + k * 3 + 2, none⟩ = some (.pointer q) := (hcel (k * 3 + 2) (by omega)).trans (by dsimp only; rw [List.getD_eq_getElem?_getD, hget 2 (by omega), hq]; rfl)
        obtain ⟨f1, f2, f3⟩ := HD.out.2 a (List.mem_of_getElem? ha)
        have HA := Lib.hid (And.intro ha (And.intro f1 (And.intro f2 f3))); clear ha f1 f2 f3 hrl hatr hcel hget
        obtain ⟨z, hz⟩ : ∃ z, z = wr.heap.size := ⟨_, rfl⟩
        obtain ⟨w3, hw3⟩ : ∃ w3, w3 = wr.alloc (.cells #[.string a.fr, .string a.to, (.pointer q)] 96) := ⟨_, rfl⟩
        have hk3 : Blk w3 z 96 #[.string a.fr, .string a.to, (.pointer q)] := by rw [hw3, hz]; exact Blk.new _ _ _
        have hb3 : Below wr.heap.size wr w3 := by rw [hw3]; exact (Below.refl _ _).alloc (Nat.le_refl _) _
        have hg3 := HG.out.1.below hb3 HG.out.1.lt
        have hp3 := (chg_of (P := fun _ => False) hb3).blk (HG.out.2.blk H1.out.1.blk hpb) id
        have hzb := hg3.not_blk hk3
        have hzw := hk3.lt
        have hpw := hp3.lt
        have hdo := fun (wx : World) (hx : GM strKey wx bs N (fun s => (dk.run D1.safe (D1.since.take k) s).map dk.ptr)) => act.do_any a bs N _ wx hx HA.out.2.1 HA.out.2.2.1 (by unfold maxLen; omega)
        rw [← dk.on_gon HA.out.2.2.2, show dk.opt a.f = .pointer q from by rw [hq]; rfl] at hdo
        clear hq
        have l0 : ∀ y : Later w3 (fun b => b = bs), y.1.cell? ⟨z, 0, none⟩ = some (.string a.fr) := fun y => (y.2.blk hk3 hzb).cell 0 rfl
        have l1 : ∀ y : Later w3 (fun b => b = bs), y.1.cell? ⟨z, 1, none⟩ = some (.string a.to) := fun y => (y.2.blk hk3 hzb).cell 1 rfl
        have l2 : ∀ y : Later w3 (fun b => b = bs), y.1.cell? ⟨z, 2, none⟩ = some (.pointer q) := fun y => (y.2.blk hk3 hzb).cell 2 rfl
        have j7 : w3.drew.cell? ⟨p, 7, none⟩ = some (.map (some bs)) := hp3.cell 7 rfl
        have H3 := Lib.hid (And.intro hdo (And.intro hg3 hb3)); clear hdo hg3 hb3 hk3 hp3 k7 k8
        have HW3 := Lib.hid (And.intro hw3 hz); clear hw3 hz
        go_upto_region 9 with fail
        rw [← HW3.out.1, ← HW3.out.2]
        have hS0 : later w3 (fun b => b = bs) w3.drew := later_of ((Chg.refl _ _).drew)
        refine wp_plan (S := fun w0 => ∃ x : Later w3 (fun b => b = bs), w0 = x.1) (by kernel_rfl) hS0 ?_
        intro hS' K5 hK5
        have HS := Lib.hid hS'; clear hS' hS0
        refine plan_group [true, true, true, true] [0, 1, 2, 3] 2 (by dsimp only [sel]) (by rfl) rfl (by kernel_rfl) (by kernel_rfl) HS.out ?_
        (repeat go_big_quiet_step (fail)); refine wpQuiet_nil ?_
        refine plan_one [false, false, false, false, true] 4 1 (by dsimp only [sel]) (by rfl) rfl (by kernel_rfl) ?_; intro K1 hK1; go_wp2_with fail
        refine ⟨later_of ((Chg.refl _ _).drew), ?_⟩
        refine plan_one [false, false, false, false, false, true] 5 0 (by dsimp only [sel]) (by rfl) rfl (by kernel_rfl) ?_; intro K1 hK1; go_wp2_with fail
        refine (H3.out.1 w3.drew (H3.out.2.1.drew 1)).mono ?_
        rintro e w4 ⟨rfl, ⟨N4, hN4, hg4⟩, hc4⟩
        have hc34 : Chg w3 w4 (fun k => k = bs) := ((Chg.refl w3 (fun k => k = bs)).drew).trans hc4 fun _ _ q => q
        have H4 := Lib.hid (And.intro hc34 (And.intro hg4 hN4)); clear hc34 hg4 hc4 hN4
        clear l0 l1 l2 j7 e0 e1 e2
        go_wp2_with fail
        refine ⟨later_of H4.out.1, ?_⟩
        refine wp_plan_end (by kernel_rfl) ?_
        go_wp2_with fail
        go_roundw
        case rel =>
          refine ⟨k + 1, N4, by omega, by go_num, by have := H4.out.2.2; omega, ?_, HG.out.2.trans ((chg_of (P := fun b => b = bs) H3.out.2.2).trans H4.out.1 fun _ _ q => q) fun _ _ q => q⟩
          obtain ⟨h1, h2⟩ := List.getElem?_eq_some_iff.1 HA.out.1
          rw [List.take_succ_eq_append_getElem h1, h2]
          have := H4.out.2.1
          simp only [dk.run_snoc]
          exact this
        case measure => simp [intOf]; omega
      · obtain rfl : k = n := by omega
        have hgf := HG.out.1
        rw [List.take_of_length_le (by rw [← HAT.out.2.1]; exact Nat.le_refl _)] at hgf
        have hp3 := HG.out.2.blk H1.out.1.blk hpb
        obtain ⟨w4, hw4⟩ : ∃ w4, w4 = wr.setCell ⟨p, 8, none⟩ (.slice none 0 0) := ⟨_, rfl⟩
        have hc4 : Chg wr w4 (fun b => b = p) := by rw [hw4]; exact Chg.setCell _ _ _ _
        have hb4 := hp3.set 8 (.slice none 0 0)
        rw [← hw4] at hb4
        have hc14 : Chg w1 w4 (fun b => b = bs ∨ b = p) := (HG.out.2.mono fun _ _ q => .inl q).trans hc4 fun _ _ q => .inr q
        have r8 := hp3.cell 8 rfl
        have z8 := hp3.frozen 8
        have hpw := hp3.lt
        obtain ⟨f1, f2, f3, f4, f5⟩ := HPF.out
        have hpn : p ≠ bn := by
          obtain ⟨M, -, hh⟩ := H1.out.1.now
          exact hh.not_blk H1.out.1.blk
        have hup : ∀ b, F b → dk.grow F w w4 b := fun b hb => ⟨.inl hb, Nat.lt_of_lt_of_le (H1.out.1.lt b hb) hc14.size⟩
        have hfin : DskAt w4 p D' (dk.grow F w w4) (m + D1.since.length) S bn bs (.slice none 0 0) dat := by
          rw [HD.out.1]
          refine ⟨hb4, H1.out.1.ne, ?_, ⟨N, by rw [← HAT.out.2.1]; exact hN, hgf.chg hc4 fun e => hpb e.symm⟩, World.ownsRow_nil _ _ _ _, fun f hf => ?_, H1.out.1.files hc14 fun b hb => ?_, H1.out.1.apart, ⟨hup _ f1, hup _ f2, hup _ f3, (fun b hb => by cases hb), fun f hf => ⟨hup f (f5 f hf).1, fun b hb => hup b ((f5 f hf).2 b hb)⟩⟩, fun _ hb => hb.2⟩
          · obtain ⟨M, hM, hh⟩ := H1.out.1.now
            refine ⟨M, by omega, hh.chg hc14 fun e => ?_⟩
            rcases e with e | e
            · exact H1.out.1.ne e
            · exact hpn e.symm
          · rcases hf with ⟨u, hu⟩ | ⟨u, hu⟩ | ⟨a, ha, -⟩
            · exact H1.out.1.has f (.inl ⟨u, hu⟩)
            · rcases dk.run_has hu with hh | hh
              · exact H1.out.1.has f (.inr (.inl hh))
              · exact H1.out.1.has f (.inr (.inr hh))
            · cases ha
          · rcases hb with hb | hb
            · exact .inr (.inl hb)
            · exact .inr (.inr (.inl hb))
        have hcf : Chg w w4 F := (H1.out.2.1.mono fun b _ e => by rw [e]; exact f1).trans hc14 fun b _ e => by
          rcases e with rfl | rfl
          · exact f3
          · exact f1
        have HFIN := Lib.hid (And.intro hfin hcf)
        clear hfin hcf hup hpn hc14 hc4 hb4 hp3 hgf k7 k8 f1 f2 f3 f4 f5
        go_wp2_with fail
        rw [← hw4]
        clear hw4
        go_ret
        exact ⟨rfl, ⟨S, bn, bs, _, dat, by first | exact HFIN.out.1 | (rw [if_pos rfl]; exact HFIN.out.1)⟩, HFIN.out.2⟩
  · rw [if_pos hne] at hdir
    have HD := Lib.hid hdir; clear hdir
    have HNE := Lib.hid hne
    have g2 : decide (E = 0) = false := decide_eq_false hne
    have g3 : (E == 0) = false := by simpa using hne
    clear hne
    go_wp2_with (go_at_call 54; refine HC.out.mono ?_; rintro e w1 ⟨rfl, h1, h2, h3⟩; have H1 := Lib.hid (And.intro h1 (And.intro h2 h3)); clear h1 h2 h3)
    go_ret
    refine ⟨rfl, ?_, H1.out.2.1.mono fun k _ e => by rw [e]; exact HPF.out.1⟩
    rw [HD.out]
    (try rw [if_neg HNE.out])
    exact ⟨S, bn, bs, sv, dat, H1.out.1.loose⟩
theorem DskIn.mono {w : World} {p : Nat} {D : Dsk} {F : Nat → Prop} {m m' : Nat} (h : DskIn w p D F m) (hm : m ≤ m') : DskIn w p D F m' := by
  obtain ⟨S, bn, bs, sv, dat, h⟩ := h
  exact ⟨S, bn, bs, sv, dat, dk.mono h hm⟩
theorem disk.SyncDir_any (p : Nat) (D : Dsk) (F : Nat → Prop) (m : Nat) (w : World) (h : DskIn w p D F m) (hD : D.near) (hfine : dk.fine D.since) (hm : m ≤ 100000) (hsi : D.since.length ≤ 100000) : Calls Try.prog 24 #[.pointer (some ⟨p, 0, none⟩)] w fun e w' => e = .returned (.int .i64 (D.comeE [])) ∧ DskIn w' p D.dir (dk.grow F w w') (m + D.since.length) ∧ Chg w w' F := by
  refine (disk.SyncDir_all p D F m w h hD hfine hm hsi).mono ?_
  rintro e w' ⟨h1, h2, h3⟩
  exact ⟨h1, h2.mono (by split <;> omega), h3⟩
end Go.Proofs.Ythffkbcjidbdaaa

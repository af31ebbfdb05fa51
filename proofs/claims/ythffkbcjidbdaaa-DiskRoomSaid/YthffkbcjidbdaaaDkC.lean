/- A disk's lead: a names' act, which is safe from the next SyncDir on. -/
import Derived.Test.YthffkbcjidbdaaaDkB
import Derived.Test.YthffkbcjidbdaaaPlanZ
import Derived.Test.YthffkbcjidbdaaaEch
import Derived.Maps.AppendAt
namespace Go.Proofs.Ythffkbcjidbdaaa
open Go.RowKit Go.Maps
set_option maxRecDepth 100000

theorem dk.infoAct : (Try.prog.info? 96).map (fun i => (i.zero, i.size, i.bytes)) = some (some (.agg #[.string (ByteArray.mk #[]), .string (ByteArray.mk #[]), .pointer none]), 3, 40) := by kernel_rfl
def Dsk.lead (D : Dsk) (a : DAct) : Dsk := { D with now := a.on D.now, since := D.since ++ [a] }
theorem dk.lead_has {D : Dsk} {a : DAct} {S : Nat → Prop} (h : ∀ f, D.Has f → S f) (ha : ∀ f, a.f = some f → S f) : ∀ f, (D.lead a).Has f → S f := fun f hf => by
  rcases hf with ⟨s, hs⟩ | ⟨s, hs⟩ | ⟨b, hb, e⟩
  · have hs : a.on D.now s = some f := hs
    have h1 : ∀ u, (if a.fr = dk.no then D.now else dk.put D.now a.fr none) u = some f → S f := fun u hu => by
      by_cases e : a.fr = dk.no
      · rw [if_pos e] at hu
        exact h f (.inl ⟨u, hu⟩)
      · rw [if_neg e] at hu
        unfold dk.put at hu
        split at hu
        · cases hu
        · exact h f (.inl ⟨u, hu⟩)
    unfold DAct.on at hs
    by_cases e : a.to = dk.no
    · rw [if_pos e] at hs
      exact h1 s hs
    · rw [if_neg e] at hs
      have hs' : (if s = a.to then a.f else (if a.fr = dk.no then D.now else dk.put D.now a.fr none) s) = some f := hs
      split at hs'
      · exact ha f hs'
      · exact h1 s hs'
  · exact h f (.inr (.inl ⟨s, hs⟩))
  · rcases List.mem_append.1 hb with hb | hb
    · exact h f (.inr (.inr ⟨b, hb, e⟩))
    · rw [List.mem_singleton.1 hb] at e
      exact ha f e

theorem dk.row_map {w : World} {base size n : Nat} {e : TypeId} {v : Value} {xs : List Value} {b N : Nat} {g : ByteArray → Option Value} (hr : w.ownsRow base e size v n xs) (hg : GM strKey w b N g) : v.ownBlock ≠ some b := fun e => by
  rcases hr.2 with ⟨rfl, _⟩ | ⟨q, cap, cur, rfl, _, hq, _⟩
  · cases e
  · obtain rfl : q = b := by simpa [Value.ownBlock] using e
    obtain ⟨D, ⟨es, clock, h1, _⟩, _⟩ := hg
    have := h1.symm.trans hq
    simp at this
theorem dk.blk_ne {w : World} {p q : Nat} {T U : TypeId} {cs ds : Array Value} (h : Blk w p T cs) (g : Blk w q U ds) (hne : T ≠ U) : p ≠ q := fun e => by
  subst e
  have h1 := (show w.heap[p]? = _ from h).symm.trans (show w.heap[p]? = _ from g)
  simp at h1
  exact hne h1.2
/-- What a turn of the names, of the acts' row and of the struct leaves of the files. -/
theorem DskAt.files {w w' : World} {p : Nat} {D : Dsk} {F S P : Nat → Prop} {m bn bs : Nat} {sv : Value} {dat : Nat → Value} (h : DskAt w p D F m S bn bs sv dat) (hc : Chg w w' P) (hp : ∀ k, P k → k = bn ∨ k = bs ∨ k = p ∨ sv.ownBlock = some k ∨ w.heap.size ≤ k) : ∀ f, S f → FileAt w' f (D.file f) (dat f) := fun f hf => by
  have hfile := h.file f hf
  obtain ⟨N, -, hn⟩ := h.now
  obtain ⟨M, -, hs⟩ := h.safe
  refine hfile.chg hc (fun hh => ?_) fun k hk hh => ?_
  · rcases hp f hh with e | e | e | e | e
    · exact hn.not_blk hfile.1 e
    · exact hs.not_blk hfile.1 e
    · exact dk.blk_ne hfile.1 h.blk (by decide) e
    · exact hfile.1.not_row (by decide) h.row e
    · have := hfile.1.lt; omega
  · rcases hp k hh with rfl | rfl | rfl | e | e
    · exact dk.row_map hfile.2.1 hn hk
    · exact dk.row_map hfile.2.1 hs hk
    · exact h.blk.not_row (by decide) hfile.2.1 hk
    · exact rows_apart hfile.2.1 h.row (by decide) hk e
    · have := (hfile.2.1.lt k hk).2; omega
set_option maxHeartbeats 4000000 in
theorem disk.lead_any (a : DAct) (p : Nat) (D : Dsk) (F S : Nat → Prop) (m bn bs : Nat) (sv : Value) (dat : Nat → Value) (w : World) (h : DskAt w p D F m S bn bs sv dat) (h1 : a.fr.size ≤ maxLen) (h2 : a.to.size ≤ maxLen) (hf : a.to ≠ dk.no → a.f ≠ none) (hS : ∀ f, a.f = some f → S f) (hm : m ≤ 1000000) (hsi : D.since.length ≤ 1000000) :
    Calls Try.prog 55 #[.pointer (some ⟨p, 0, none⟩), .agg #[.string a.fr, .string a.to, dk.opt a.f]] w fun e w' => e = .returned (.tuple #[]) ∧ (∃ sv', DskAt w' p (D.lead a) (dk.grow F w w') (m + 1) S bn bs sv' dat) ∧ Chg w w' F := by
  obtain ⟨i0, hi, hz0, hz1', hz2⟩ := info_parts dk.infoAct
  have HI := Lib.hid (And.intro hi (And.intro hz0 (And.intro hz1' hz2))); clear hi hz0 hz1' hz2
  have hmn := eql_map_nil Try.underlying80 (some bn)
  simp only [Option.isNone_some] at hmn
  obtain ⟨z, hz⟩ : ∃ z, z = w.heap.size := ⟨_, rfl⟩
  obtain ⟨w1, hw1⟩ : ∃ w1, w1 = w.alloc (.cells #[.string a.fr, .string a.to, dk.opt a.f] 96) := ⟨_, rfl⟩
  have hk1 : Blk w1 z 96 #[.string a.fr, .string a.to, dk.opt a.f] := by rw [hw1, hz]; exact Blk.new _ _ _
  have hb1 : Below w.heap.size w w1 := by rw [hw1]; exact (Below.refl _ _).alloc (Nat.le_refl _) _
  have hd1 := h.keep (chg_of (P := fun _ => False) hb1) fun _ _ q => q
  obtain ⟨f1, f2, f3, f4, f5⟩ := h.foot
  have hpl := h.lt p f1
  have hpn : p ≠ bn := by
    obtain ⟨N, -, hg⟩ := h.now
    exact hg.not_blk h.blk
  have hps : p ≠ bs := by
    obtain ⟨N, -, hg⟩ := h.safe
    exact hg.not_blk h.blk
  obtain ⟨N, hN, hg⟩ := hd1.now
  have hdo := fun (wx : World) (hx : GM strKey wx bn N (fun s => (D.now s).map dk.ptr)) => act.do_any a bn N _ wx hx h1 h2 (by unfold maxLen; omega)
  rw [← dk.on_gon hf] at hdo
  have H1 := Lib.hid (And.intro hk1 (And.intro hb1 (And.intro hd1 hg))); clear hk1 hb1 hd1 hg
  have HW := Lib.hid (And.intro hw1 hz)
  have hz' : z = w.heap.size := hz
  clear hw1 hz
  have HDO := Lib.hid hdo; clear hdo
  have hzw := H1.out.1.lt
  have hzp : z ≠ p := by omega
  have hzb : z ≠ bn := by have := h.lt bn f2; omega
  go_enter Try.func55, Try.ntmps55
  go_upto_region 1 with fail
  rw [← HW.out.1, ← HW.out.2]
  have hpl1 := H1.out.2.2.1.blk.lt
  have k6 := H1.out.2.2.1.blk.cell 6 (v := .map (some bn)) rfl
  have HZ := Lib.hid hz'; clear hz'
  go_upto_region 3 with fail
  have l0 : ∀ y : Later w1 (fun k => k = bn), y.1.cell? ⟨z, 0, none⟩ = some (.string a.fr) := fun y => (y.2.blk H1.out.1 hzb).cell 0 rfl
  have l1 : ∀ y : Later w1 (fun k => k = bn), y.1.cell? ⟨z, 1, none⟩ = some (.string a.to) := fun y => (y.2.blk H1.out.1 hzb).cell 1 rfl
  have l2 : ∀ y : Later w1 (fun k => k = bn), y.1.cell? ⟨z, 2, none⟩ = some (dk.opt a.f) := fun y => (y.2.blk H1.out.1 hzb).cell 2 rfl
  have k6' : w1.drew.cell? ⟨p, 6, none⟩ = some (.map (some bn)) := k6
  have hS0 : later w1 (fun k => k = bn) w1.drew := later_of ((Chg.refl _ _).drew)
  refine wp_plan (S := fun w0 => ∃ x : Later w1 (fun k => k = bn), w0 = x.1) (by kernel_rfl) hS0 ?_
  intro hS' K5 hK5
  have HS := Lib.hid hS'; clear hS' hS0
  refine plan_group [true, true, true, true] [0, 1, 2, 3] 2 (by dsimp only [sel]) (by rfl) rfl (by kernel_rfl) (by kernel_rfl) HS.out ?_
  (repeat go_big_quiet_step (fail)); refine wpQuiet_nil ?_
  refine plan_one [false, false, false, false, true] 4 1 (by dsimp only [sel]) (by rfl) rfl (by kernel_rfl) ?_; intro K1 hK1; go_wp2_with fail
  refine ⟨later_of ((Chg.refl _ _).drew), ?_⟩
  refine plan_one [false, false, false, false, false, true] 5 0 (by dsimp only [sel]) (by rfl) rfl (by kernel_rfl) ?_; intro K1 hK1; go_wp2_with fail
  refine (HDO.out w1.drew (H1.out.2.2.2.drew 1)).mono ?_
  rintro e w2 ⟨rfl, ⟨N2, hN2, hg2⟩, hc2⟩
  have hc12 : Chg w1 w2 (fun k => k = bn) := ((Chg.refl w1 (fun k => k = bn)).drew).trans hc2 fun _ _ q => q
  have HC2 := Lib.hid (And.intro hc12 (And.intro hg2 (show N2 ≤ m + 1 by omega))); clear hc12 hg2 hc2 hN2
  go_wp2_with fail
  refine ⟨later_of HC2.out.1, ?_⟩
  refine wp_plan_end (by kernel_rfl) ?_
  clear l0 l1 l2 k6 k6'
  have hbp := HC2.out.1.blk H1.out.2.2.1.blk hpn
  have hbz := HC2.out.1.blk H1.out.1 hzb
  have hrow := HC2.out.1.own H1.out.2.2.1.row fun k hk e => dk.row_map H1.out.2.2.1.row H1.out.2.2.2 (by rw [hk, e])
  have hnp : sv.ownBlock ≠ some p := hbp.not_row (by decide) hrow
  have hnz : sv.ownBlock ≠ some z := fun e => by have := h.lt z (f4 z e); have := HZ.out; omega
  have hsvl : sv.ownBlock ≠ some w2.heap.size := fun e => by have := (hrow.lt _ e).2; omega
  obtain ⟨Asv, csv, rfl, -⟩ := own_at hrow
  have HP2 := Lib.hid (And.intro hbp (And.intro hbz hrow)); clear hbp hbz hrow
  have m0 : w2.drew.cell? ⟨z, 0, none⟩ = some (.string a.fr) := HP2.out.2.1.cell 0 rfl
  have m1 : w2.drew.cell? ⟨z, 1, none⟩ = some (.string a.to) := HP2.out.2.1.cell 1 rfl
  have m2 : w2.drew.cell? ⟨z, 2, none⟩ = some (dk.opt a.f) := HP2.out.2.1.cell 2 rfl
  have hzw2 := HP2.out.2.1.lt
  have hpw2 := HP2.out.1.lt
  generalize hnn : D.since.length = nn at *
  have q8 : ∀ y : Later w2 (fun k => (Value.slice Asv nn csv).ownBlock = some k), y.1.cell? ⟨p, 8, none⟩ = some (.slice Asv nn csv) := fun y => (y.2.blk HP2.out.1 hnp).cell 8 rfl
  go_wp2_with fail
  have hS0 : later w2 (fun k => (Value.slice Asv nn csv).ownBlock = some k) w2.drew := later_of ((Chg.refl _ _).drew)
  refine wp_planz 10 (S := fun w0 => ∃ x : Later w2 (fun k => (Value.slice Asv nn csv).ownBlock = some k), w0 = x.1) (by kernel_rfl) hS0 ?_
  intro hS' K5 hK5
  have HSS := Lib.hid hS'; clear hS' hS0
  refine planz_group [true, true, true, true, true] [0, 1, 2, 3, 4] 6 (by dsimp only [sel]) (by rfl) rfl (by kernel_rfl) (by kernel_rfl) (by kernel_rfl) HSS.out ?_
  (repeat go_big_quiet_step (fail)); refine wpQuiet_nil ?_
  refine planz_one [false, false, false, false, false, true] 5 5 (by dsimp only [sel]) (by rfl) rfl (by kernel_rfl) ?_; intro K1 hK1; go_wp2_with fail
  refine ⟨fun _ => HSS.out, ?_⟩
  refine planz_one [false, false, false, false, false, false, true] 6 4 (by dsimp only [sel]) (by rfl) rfl (by kernel_rfl) ?_; intro K1 hK1; go_wp2_with fail
  refine ⟨fun _ => later_of ((Chg.alloc w2 _ _).drew), ?_⟩
  have hown3 : (w2.alloc (.cells #[.string a.fr, .string a.to, dk.opt a.f] 96)).drew.ownsRow 0 96 3 (.slice Asv nn csv) nn (dk.row D.since) := HP2.out.2.2.alloc _
  have HO3 := Lib.hid hown3; clear hown3
  have hcel := cells_new w2 [.string a.fr, .string a.to, dk.opt a.f] 96 w2.heap.size rfl
  have HCEL := Lib.hid hcel; clear hcel
  have hone : ∀ x ∈ ([.string a.fr, .string a.to, dk.opt a.f] : List Value), x.oneCell' = true := fun x hx => by
    simp only [List.mem_cons, List.not_mem_nil, or_false] at hx
    rcases hx with rfl | rfl | rfl <;> rfl
  refine planz_one [false, false, false, false, false, false, false, true] 7 3 (by dsimp only [sel]) (by rfl) rfl (by kernel_rfl) ?_; intro K1 hK1
  go_wp2_with (at_builtin; go_loud (refine wpList_append_own_at _ rfl (.tmp 23) (.tmp 25) 81 rfl 0 96 i0 _ 3 40 Try.underlying81 HI.out.1 HI.out.2.1 HI.out.2.2.1 HI.out.2.2.2 rfl (by decide) (.slice Asv nn csv) nn (dk.row D.since) rfl HO3.out ⟨w2.heap.size, 0, none⟩ 1 1 [.string a.fr, .string a.to, dk.opt a.f] rfl rfl HCEL.out hone (by unfold maxLen; omega) (by omega) (by simp) ?_; intro v4 w4 h1 h2 _ h3; have HN4 := Lib.hid (And.intro h1 (And.intro h2 h3)); clear h1 h2 h3))
  have hc24 : Chg w2 w4 (fun k => (Value.slice Asv nn csv).ownBlock = some k) := ((Chg.alloc w2 _ _).drew).trans (Chg.grown HN4.out.2.1) fun _ _ q => q
  have hb4 := hc24.blk HP2.out.1 hnp
  have HC4 := Lib.hid (And.intro hc24 hb4); clear hc24 hb4
  refine ⟨fun _ => later_of HC4.out.1, ?_⟩
  refine planz_one [false, false, false, false, false, false, false, false, true] 8 2 (by dsimp only [sel]) (by rfl) rfl (by kernel_rfl) ?_; intro K1 hK1; go_wp2_with fail
  refine ⟨fun _ => later_of HC4.out.1, ?_⟩
  refine planz_one [false, false, false, false, false, false, false, false, false, true] 9 1 (by dsimp only [sel]) (by rfl) rfl (by kernel_rfl) ?_; intro K1 hK1; go_wp2_with fail
  refine ⟨fun _ => later_of HC4.out.1, ?_⟩
  have n8 := HC4.out.2.cell 8 (v := .slice Asv nn csv) rfl
  have z8 := HC4.out.2.frozen 8
  have hpw4 := HC4.out.2.lt
  obtain ⟨A4, c4, rfl, -⟩ := own_at HN4.out.1
  obtain ⟨w5, hw5⟩ : ∃ w5, w5 = w4.setCell ⟨p, 8, none⟩ (.slice A4 (nn + 1) c4) := ⟨_, rfl⟩
  have hc45 : Chg w4 w5 (fun k => k = p) := by rw [hw5]; exact Chg.setCell _ _ _ _
  have hb5 : Blk w5 p 83 #[.int .i64 D.room, .int .i64 D.used, .int .i64 D.ops, .bool D.off, .bool D.cut, .int .i64 D.left, .map (some bn), .map (some bs), .slice A4 (nn + 1) c4] := by rw [hw5]; exact HC4.out.2.set 8 _
  have HB5 := Lib.hid (And.intro hc45 hb5); clear hc45 hb5
  refine planz_one [false, false, false, false, false, false, false, false, false, false, true] 10 0 (by dsimp only [sel]) (by rfl) rfl (by kernel_rfl) ?_; intro K1 hK1
  go_wp2_with fail
  refine ⟨fun h => absurd rfl h, ?_⟩
  refine wp_planz_end (by kernel_rfl) ?_
  rw [← hw5]
  clear hw5 n8 z8 q8 m0 m1 m2
  have hc25 : Chg w2 w5 (fun k => (Value.slice Asv nn csv).ownBlock = some k ∨ k = p) := (HC4.out.1.mono fun _ _ q => .inl q).trans HB5.out.1 fun _ _ q => .inr q
  have hc15 : Chg w1 w5 (fun k => k = bn ∨ (Value.slice Asv nn csv).ownBlock = some k ∨ k = p) := (HC2.out.1.mono fun _ _ q => .inl q).trans hc25 fun _ _ q => .inr q
  have hd1 := H1.out.2.2.1
  have hsz : w.heap.size ≤ w5.heap.size ∧ w4.heap.size ≤ w5.heap.size ∧ w.heap.size ≤ w2.heap.size := ⟨Nat.le_trans H1.out.2.1.size hc15.size, HB5.out.1.size, Nat.le_trans H1.out.2.1.size HC2.out.1.size⟩
  have hfin : (∃ sv', DskAt w5 p (D.lead a) (dk.grow F w w5) (m + 1) S bn bs sv' dat) ∧ Chg w w5 F := by
    refine ⟨⟨.slice A4 (nn + 1) c4, HB5.out.2, h.ne, ⟨N2, HC2.out.2.2, HC2.out.2.1.chg hc25 fun hh => ?_⟩, ?_, ?_, dk.lead_has h.has hS, ?_, h.apart, ?_, fun k hk => hk.2⟩, ?_⟩
    · rcases hh with hh | hh
      · exact dk.row_map HP2.out.2.2 HC2.out.2.1 hh
      · exact hpn hh.symm
    · obtain ⟨M, hM, hgs⟩ := hd1.safe
      refine ⟨M, by omega, hgs.chg hc15 fun hh => ?_⟩
      rcases hh with hh | hh | hh
      · exact h.ne hh.symm
      · have hr := hd1.row
        exact dk.row_map hr hgs hh
      · exact hps hh.symm
    · have hr := HB5.out.1.own HN4.out.1 fun k hk e => by
        subst e
        exact HC4.out.2.not_row (by decide) HN4.out.1 hk
      show w5.ownsRow 0 _ 3 _ (D.since ++ [a]).length (dk.row (D.since ++ [a]))
      rw [dk.row_snoc, List.length_append, hnn]
      exact hr
    · refine hd1.files hc15 fun k hk => ?_
      rcases hk with hk | hk | hk
      · exact .inl hk
      · exact .inr (.inr (.inr (.inl hk)))
      · exact .inr (.inr (.inl hk))
    · have hup : ∀ k, F k → dk.grow F w w5 k := fun k hk => ⟨.inl hk, Nat.lt_of_lt_of_le (h.lt k hk) hsz.1⟩
      refine ⟨hup p f1, hup bn f2, hup bs f3, fun k hk => ?_, fun f hf => ⟨hup f (f5 f hf).1, fun k hk => hup k ((f5 f hf).2 k hk)⟩⟩
      have hlt := (HN4.out.1.lt k hk).2
      refine ⟨?_, by omega⟩
      rcases HN4.out.2.2 with e | e
      · exact .inl (f4 k (by rw [← e]; exact hk))
      · rw [e] at hk
        have hk : (w2.alloc (.cells #[.string a.fr, .string a.to, dk.opt a.f] 96)).heap.size = k := by simpa using hk
        simp at hk
        exact .inr (by omega)
    · refine (chg_of (P := F) H1.out.2.1).trans hc15 fun k _ hk => ?_
      rcases hk with rfl | hk | rfl
      · exact f2
      · exact f4 k hk
      · exact f1
  have HFIN := Lib.hid hfin; clear hfin hc25 hc15 hd1 hsz
  go_wp2
  go_end0
  exact ⟨rfl, HFIN.out⟩
end Go.Proofs.Ythffkbcjidbdaaa

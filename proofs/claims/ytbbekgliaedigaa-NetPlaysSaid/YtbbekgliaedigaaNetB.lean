/- net: contract of Send. -/
import Derived.Test.YtbbekgliaedigaaNetA
namespace Go.Proofs.Ytbbekgliaedigaa
open Go.RowKit

theorem net.oneItm (id : Int) {w : World} {C n : Nat} {v : Value} {xs : List Value} (h : w.ownsRow C 5 1 v n xs) (gone : Bool) : ∀ j, j < 1 * 3 → (([.int .i64 id, v, .bool gone] : List Value).getD j undef).oneCell' = true := by
  obtain ⟨A, c, rfl, -⟩ := own_at h
  intro j hj
  match j, hj with
  | 0, _ => rfl
  | 1, _ => rfl
  | 2, _ => rfl

theorem net.atItm (w : World) (a b c : Value) (T : TypeId) : At (w.alloc (.cells #[a, b, c] T)) (some ⟨w.heap.size, 0, none⟩) (1 * 3) (fun j => ([a, b, c] : List Value).getD j undef) :=
  (At.new w #[a, b, c] T (n := 1 * 3) rfl).congr fun j hj => match j, hj with | 0, _ => rfl | 1, _ => rfl | 2, _ => rfl
theorem net.cellsItm (a b c : Value) : cellsOf (1 * 3) (fun j => ([a, b, c] : List Value).getD j undef) = [a, b, c] := rfl

set_option maxRecDepth 20000 in
set_option maxHeartbeats 4000000 in
theorem net.send_any (B C p last : Nat) (l : List NItm) (X : Option Addr) (m c : Nat) (L : List Nat) (w : World) (h : NetAt B C w p last l) (hlast : last ≤ 100000000) (hCw : C ≤ w.heap.size) (hl : L.length = m) (hm : m ≤ 1000000) (hat : At w X m (byteAt L)) :
    Calls Try.prog 55 #[.pointer (some ⟨p, 0, none⟩), .slice X m c] w fun e w' => e = .returned (.int .i64 ((last : Int) + 1)) ∧ (∃ A k c, NetAt B C w' p (last + 1) (l ++ [⟨last + 1, A, k, c, false, L⟩])) ∧ NChg B w w' := by
  obtain ⟨rv, mb, N, g, hb, hr, hg, hN, hinv, hbs, hll, hBp, hBm⟩ := h
  obtain ⟨Ar, cr, rfl, -⟩ := own_at hr
  have hpm : p ≠ mb := hg.not_blk hb
  have hgn := net.goneN_le l
  have hmn := eql_map_nil Try.underlying144 (some mb)
  simp only [Option.isNone_some] at hmn
  have c0 : w.cell? ⟨p, 0, none⟩ = some (.int .i64 last) := hb.cell 0 rfl
  have c3 : w.cell? ⟨p, 3, none⟩ = some (.map (some mb)) := hb.cell 3 rfl
  have hf := fun j => hb.frozen j
  have hnr : (Value.slice Ar l.length cr).ownBlock ≠ some p := hb.not_row (by decide) hr
  have hBw : B ≤ w.heap.size := by have := hb.lt; omega
  have HB := Lib.hid hb; clear hb
  have HR := Lib.hid hr; clear hr
  have HG := Lib.hid hg; clear hg
  have HI := Lib.hid hinv; clear hinv
  have HBS := Lib.hid hbs; clear hbs
  have HAT := Lib.hid hat; clear hat
  have HL := Lib.hid hl; clear hl
  go_enter Try.func55, Try.ntmps55
  go_wp2_with fail
  obtain ⟨w1, hw1⟩ : ∃ w1, w1 = w.setCell ⟨p, 0, none⟩ (.int .i64 ((last : Int) + 1)) := ⟨_, rfl⟩
  rw [← hw1]
  have hb1 : Blk w1 p 147 #[.int .i64 ((last : Int) + 1), .slice Ar l.length cr, .int .i64 (net.goneN l), .map (some mb)] := by rw [hw1]; exact HB.out.set 0 _
  have hc1 : Chg w w1 (fun k => k = p) := by rw [hw1]; exact Chg.setCell _ _ _ _
  have hg1 : GM intKey w1 mb N g := HG.out.chg hc1 fun e => hpm e.symm
  have hs1 : w1.heap.size = w.heap.size := by rw [hw1]; simp
  clear hw1 c0 c3 hf
  have HB1 := Lib.hid hb1; clear hb1
  have HC1 := Lib.hid hc1; clear hc1
  have HG1 := Lib.hid hg1; clear hg1
  have HS1 := Lib.hid hs1; clear hs1
  have q0 : ∀ x : Later w1 (fun k => k = mb), x.1.cell? ⟨p, 0, none⟩ = some (.int .i64 ((last : Int) + 1)) := fun x => (x.2.blk HB1.out hpm).cell 0 rfl
  have q1 : ∀ x : Later w1 (fun k => k = mb), x.1.cell? ⟨p, 1, none⟩ = some (.slice Ar l.length cr) := fun x => (x.2.blk HB1.out hpm).cell 1 rfl
  have q3 : ∀ x : Later w1 (fun k => k = mb), x.1.cell? ⟨p, 3, none⟩ = some (.map (some mb)) := fun x => (x.2.blk HB1.out hpm).cell 3 rfl
  have hS0 : later w1 (fun k => k = mb) w1.drew := later_of ((Chg.refl _ _).drew)
  refine wp_plan (S := fun w0 => ∃ x : Later w1 (fun k => k = mb), w0 = x.1) (by kernel_rfl) hS0 ?_
  intro hS K5 hK5
  have HS := Lib.hid hS; clear hS hS0
  refine plan_group [true, true, true, true, true, true, true, true, true, true, true] [0, 1, 2, 3, 4, 5, 6, 7, 8, 9, 10] 3 (by dsimp only [sel]) (by rfl) rfl (by kernel_rfl) (by kernel_rfl) HS.out ?_
  (repeat go_big_quiet_step (fail)); refine wpQuiet_nil ?_
  have c1 : w1.drew.cell? ⟨p, 1, none⟩ = some (.slice Ar l.length cr) := HB1.out.cell 1 rfl
  refine plan_one [false, false, false, false, false, false, false, false, false, false, false, true] 11 2 (by dsimp only [sel]) (by rfl) rfl (by kernel_rfl) ?_; intro K1 hK1; go_wp2_with fail
  refine ⟨HS.out, ?_⟩
  refine plan_group [false, false, false, false, false, false, false, false, false, false, false, false, true] [12] 1 (by dsimp only [sel]) (by rfl) rfl (by kernel_rfl) (by kernel_rfl) HS.out ?_
  (repeat go_big_quiet_step (fail)); refine wpQuiet_nil ?_
  refine plan_one [false, false, false, false, false, false, false, false, false, false, false, false, false, true] 13 0 (by dsimp only [sel]) (by rfl) rfl (by kernel_rfl) ?_; intro K1 hK1
  refine GM.list_put (κ := intKey) _ rfl (.tmp 26) (.tmp 30) (.tmp 35) Try.underlying144 rfl (HG1.out.drew 1) ((last : Int) + 1) (by constructor <;> omega) (.int .i64 l.length) (by unfold maxLen; omega) rfl rfl rfl ?_
  intro w2 hg2 hc2 hs2
  have hc2 : Chg w1 w2 (fun k => k = mb) := ((Chg.refl w1 _).drew).trans hc2 fun _ _ h => h
  have hs2 : w2.heap.size = w.heap.size := hs2.trans HS1.out
  have hb2 := hc2.blk HB1.out hpm
  have HG2 := Lib.hid hg2; clear hg2
  have HC2 := Lib.hid hc2; clear hc2
  have HS2 := Lib.hid hs2; clear hs2
  have HB2 := Lib.hid hb2; clear hb2
  go_wp2_with fail
  refine ⟨later_of HC2.out, ?_⟩
  refine wp_plan_end (by kernel_rfl) ?_
  clear q0 q1 q3 HS c1
  refine hK5 _ _ ?_
  clear hK5
  have hch : Chg w w2 (fun k => k = p ∨ k = mb) := (HC1.out.mono fun _ _ h => .inl h).trans HC2.out fun _ _ h => .inr h
  have hr2 : w2.ownsRow B 149 3 (.slice Ar l.length cr) l.length (net.row l) := hch.own HR.out fun k hk hh => by
    rcases hh with rfl | rfl
    · exact hnr hk
    · exact HG.out.not_own HR.out hk
  have hbs2 : NBytes C w2 l := HBS.out.chg hch fun k hh => .inl (by
    rcases hh with rfl | rfl
    · exact net.blk_ty HB.out
    · exact HG.out.ty)
  have hat2 : At w2.drew X m (byteAt L) := (hch.at' HAT.out fun hn b off e hh => by
    rcases hh with rfl | rfl
    · refine HAT.out.not_blk hn HB.out (fun j u hj => ?_) b off e rfl
      match j, hj with
      | 0, hj => simp at hj; subst hj; simp [byteAt]
      | 1, hj => simp at hj; subst hj; simp [byteAt]
      | 2, hj => simp at hj; subst hj; simp [byteAt]
      | 3, hj => simp at hj; subst hj; simp [byteAt]
      | j + 4, hj => simp at hj
    · obtain ⟨b', off', e', _, hc⟩ := HAT.out hn
      rw [e] at e'
      obtain ⟨rfl, rfl⟩ : b = b' ∧ off = off' := by simpa using e'
      exact HG.out.not_cells (hc 0 hn) rfl).drew 1
  have HR2 := Lib.hid hr2; clear hr2
  have HBS2 := Lib.hid hbs2; clear hbs2
  have HCH2 := Lib.hid hch; clear hch
  have hcl := clone_any X m c L w2.drew HL.out (by omega) hat2
  have HCL := Lib.hid hcl; clear hcl hat2
  have d0 : w2.drew.cell? ⟨p, 0, none⟩ = some (.int .i64 ((last : Int) + 1)) := HB2.out.cell 0 rfl
  have d1 : w2.drew.cell? ⟨p, 1, none⟩ = some (.slice Ar l.length cr) := HB2.out.cell 1 rfl
  obtain ⟨i0, hi, hz0, hz1, hz2⟩ := info_parts infoItem
  have hk : ∀ (w3 w4 : World) (o : Obj), Below w2.drew.heap.size w2.drew w3 → (w3.alloc o).grownBy w4 (Value.slice Ar l.length cr).ownBlock → Chg w2 w4 (fun k => (Value.slice Ar l.length cr).ownBlock = some k) ∧ Blk w4 p 147 #[.int .i64 ((last : Int) + 1), .slice Ar l.length cr, .int .i64 (net.goneN l), .map (some mb)] := fun w3 w4 o h1 h2 => by
    have h3 : Chg w2 w4 (fun k => (Value.slice Ar l.length cr).ownBlock = some k) :=
      ((Chg.refl w2 (fun k => (Value.slice Ar l.length cr).ownBlock = some k)).drew.trans (chg_of (P := fun _ => False) h1) fun _ _ h => h.elim).trans ((Chg.alloc w3 o _).trans (Chg.grown h2) fun _ _ h => h) fun _ _ h => h
    exact ⟨h3, h3.blk HB2.out hnr⟩
  have HK := Lib.hid hk; clear hk
  have hfin : ∀ (w3 w4 w5 : World) (Av : Option Addr) (cv gr c4 : Nat), Below w2.drew.heap.size w2.drew w3 → w3.ownsRow w2.drew.heap.size 5 1 (.slice Av m cv) m (u8s L) → Chg w2 w4 (fun k => (Value.slice Ar l.length cr).ownBlock = some k) → Blk w4 p 147 #[.int .i64 ((last : Int) + 1), .slice Ar l.length cr, .int .i64 (net.goneN l), .map (some mb)] →
      Chg w3 w4 (fun k => (Value.slice Ar l.length cr).ownBlock = some k) → w4.ownsRow B 149 3 (.slice (some ⟨gr, 0, none⟩) (l.length + 1) c4) (l.length + 1) (net.row l ++ [.int .i64 ((last : Int) + 1), .slice Av m cv, .bool false]) →
      w5 = w4.setCell ⟨p, 1, none⟩ (.slice (some ⟨gr, 0, none⟩) (l.length + 1) c4) → (∃ A k c, NetAt B C w5 p (last + 1) (l ++ [⟨last + 1, A, k, c, false, L⟩])) ∧ NChg B w w5 := fun w3 w4 w5 Av cv gr c4 h3 hv3 h4 hb4 h34 ho4 e5 => by
    have hc5 : Chg w4 w5 (fun k => k = p) := by rw [e5]; exact Chg.setCell _ _ _ _
    have h25 : Chg w2 w5 (fun k => (Value.slice Ar l.length cr).ownBlock = some k ∨ k = p) := (h4.mono fun _ _ h => .inl h).trans hc5 fun _ _ h => .inr h
    have hb5 : Blk w5 p 147 #[.int .i64 ((last : Int) + 1), .slice (some ⟨gr, 0, none⟩) (l.length + 1) c4, .int .i64 (net.goneN l), .map (some mb)] := by rw [e5]; exact hb4.set 1 _
    have ho5 := hc5.own ho4 fun k hk e => by subst e; exact hb4.not_row (by decide) ho4 hk
    have hg5 := HG2.out.chg h25 fun h => by
      rcases h with h | h
      · exact HG2.out.not_own HR2.out h
      · exact hpm h.symm
    have hty : ∀ k, (Value.slice Ar l.length cr).ownBlock = some k ∨ k = p → B ≤ k ∧ NetTy w2 k := fun k hk => by
      rcases hk with hk | rfl
      · exact net.row_ty HR2.out hk
      · exact ⟨hBp, net.blk_ty HB2.out⟩
    have hbs5 := HBS2.out.chg h25 fun k hk => .inl (hty k hk).2
    have hv5 : w5.ownsRow w2.drew.heap.size 5 1 (.slice Av m cv) m (u8s L) := hc5.own (h34.own hv3 fun k hk hh => rows_apart hv3 ((chg_of (P := fun _ => False) h3).own HR2.out fun _ _ h => h) (by decide) hk hh) fun k hk e => by
      subst e
      have := (hv3.lt k hk).1
      have := HB2.out.lt
      have e : w2.drew.heap.size = w2.heap.size := rfl
      omega
    refine ⟨⟨Av, m, cv, net.sent hll (by omega) HI.out hb5 ho5 hg5 hN hbs5 (by rw [HL.out]; exact ownsRow_base hv5 (by have e : w2.drew.heap.size = w2.heap.size := rfl; have := HS2.out; omega)) (by have := HL.out; omega) hBp hBm⟩, ?_⟩
    refine (NChg.of (P := fun k => k = p ∨ k = mb) HCH2.out fun k hk => ?_).trans (.of h25 hty)
    rcases hk with rfl | rfl
    · exact ⟨hBp, net.blk_ty HB.out⟩
    · exact ⟨hBm, HG.out.ty⟩
  have HFIN := Lib.hid hfin; clear hfin
  go_wp2_with fail
  go_region_law
    (first
    | (go_simp; go_at_call 75; refine HCL.out.mono ?_; rintro e w3 ⟨⟨vb, rfl, hv3⟩, hb3⟩; obtain ⟨Av, cv, rfl, -⟩ := own_at hv3; clear d0 d1; have hp3 : p < w3.heap.size := ((chg_of (P := fun _ => False) hb3).blk (HB2.out.drew 1) id).lt; have d0 : w3.cell? ⟨p, 0, none⟩ = some (.int .i64 ((last : Int) + 1)) := ((chg_of (P := fun _ => False) hb3).blk (HB2.out.drew 1) id).cell 0 rfl; have d1 : w3.cell? ⟨p, 1, none⟩ = some (.slice Ar l.length cr) := ((chg_of (P := fun _ => False) hb3).blk (HB2.out.drew 1) id).cell 1 rfl; have HV3 := Lib.hid hv3; have HR3 := Lib.hid ((chg_of (P := fun _ => False) hb3).own HR2.out fun _ _ h => h); have HB3 := Lib.hid hb3; clear hv3 hb3)
    | (refine step_app2 _ rfl (.tmp 40) (.tmp 48) 145 rfl B 149 i0 _ 3 40 Try.underlying145 hi hz0 hz1 hz2 rfl (by decide) _ l.length (net.row l) rfl (HR3.out.alloc _) (some ⟨w3.heap.size, 0, none⟩) 1 1 (fun j => ([.int .i64 ((last : Int) + 1), .slice Av m cv, .bool false] : List Value).getD j undef) rfl (net.atItm w3 _ _ _ _) (net.oneItm _ HV3.out _) (by unfold maxLen; omega) (by omega) (by have h0 : w2.heap.size ≤ w3.heap.size := HB3.out.size; have := HS2.out; simp; omega) ?_; intro v4 w4 hown4 hg4 hl4; rw [net.cellsItm] at hown4; obtain ⟨gr, c4, rfl, -⟩ := own_row_pos hown4 (Nat.succ_pos _); have hc4 := HK.out w3 w4 _ HB3.out hg4; have HO4 := Lib.hid hown4; have HC34 := Lib.hid (show Chg w3 w4 (fun k => (Value.slice Ar l.length cr).ownBlock = some k) from (Chg.alloc w3 _ _).trans (Chg.grown hg4) fun _ _ h => h); have HB4 := Lib.hid hc4.2; have HC4 := Lib.hid hc4.1; clear d0 d1; have d0 : w4.cell? ⟨p, 0, none⟩ = some (.int .i64 ((last : Int) + 1)) := HB4.out.cell 0 rfl; have d1 : w4.cell? ⟨p, 1, none⟩ = some (.slice Ar l.length cr) := HB4.out.cell 1 rfl; have hf4 : w4.frozen? ⟨p, 1, none⟩ = false := HB4.out.frozen 1; clear hown4 hg4 hl4 hc4))
  all_goals
    obtain ⟨w5, hw5⟩ : ∃ w5, w5 = w4.setCell ⟨p, 1, none⟩ (.slice (some ⟨gr, 0, none⟩) (l.length + 1) c4) := ⟨_, rfl⟩
    have HP := Lib.hid (HFIN.out w3 w4 w5 _ _ _ _ HB3.out HV3.out HC4.out HB4.out HC34.out HO4.out hw5)
    have e0 : w5.cell? ⟨p, 0, none⟩ = some (.int .i64 ((last : Int) + 1)) := by rw [hw5]; exact (HB4.out.set 1 _).cell 0 rfl
    rw [← hw5]
    clear hw5 d0 d1 hf4
    go_wp2
    go_ret
    exact ⟨rfl, HP.out.1, HP.out.2⟩
end Go.Proofs.Ytbbekgliaedigaa

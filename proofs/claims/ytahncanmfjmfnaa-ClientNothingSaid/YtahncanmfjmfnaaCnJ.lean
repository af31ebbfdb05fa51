/- client: records are counted; an answer is taken. -/
import Derived.Test.YtahncanmfjmfnaaCnI
namespace Go.Proofs.Ytahncanmfjmfnaa
open Go.RowKit Go.Maps
set_option maxRecDepth 100000

/-- The worlds in which the map says at x what it said. -/
def cn.Say (w : World) (b : Nat) (x : SlotK) (d : Int) : Type := {w0 : World // Chg w w0 (fun k => k = b) ∧ (Instr.lookup 74 (.map (some b)) (.agg #[.string x.s, .int .i64 x.p]) false).run Try.prog w0 = .ok (.int .i64 d) w0}
def cn.sentA (s : CSent) (A : Option Addr) (n c : Nat) : Array Value := #[.int .i64 4, .int .i64 s.corr, .string (ByteArray.mk #[]), .string s.topic, .int .i64 s.part, .int .i64 0, .int .i64 0, .int .i64 0, .string (ByteArray.mk #[]), .string (ByteArray.mk #[]), .int .i64 0, .slice none 0 0, .slice A n c, .int .i64 s.count]
open Classical in
noncomputable def cn.upd (D : SlotK → Int) (x : SlotK) (v : Int) : SlotK → Int := fun u => if u = x then v else D u
set_option maxHeartbeats 4000000 in
theorem cn.add_any (p : Nat) (id epoch corr : Int) (D : SlotK → Int) (F : Nat → Prop) (n : Nat) (s : CSent) (x : SlotK) (hx : s.topic = x.s ∧ s.part = x.p) (A : Option Addr) (m c : Nat) (w : World) (h : CnAt w p id epoch corr none D F n) (hn : n ≤ 1000000) (hD : 0 ≤ D x ∧ D x ≤ 1000000000) (hc : 0 ≤ s.count ∧ s.count ≤ 1000000) :
    Calls Try.prog 33 #[.pointer (some ⟨p, 0, none⟩), .agg (cn.sentA s A m c)] w fun e w' => e = .returned (.tuple #[]) ∧ CnAt w' p id epoch corr none (cn.upd D x (D x + s.count)) F (n + 1) ∧ Chg w w' F := by
  obtain ⟨w1, hw1⟩ : ∃ w1, w1 = w.alloc (.cells (cn.sentA s A m c) 83) := ⟨_, rfl⟩
  obtain ⟨g, hg⟩ : ∃ g, g = w.heap.size := ⟨_, rfl⟩
  have hc1 : Chg w w1 (fun _ => False) := by rw [hw1]; exact Chg.alloc _ _ _
  have hb1 : Blk w1 g 83 (cn.sentA s A m c) := by rw [hw1, hg]; exact Blk.new _ _ _
  have hltw := h.lt.2
  obtain ⟨uv, mb, N, gm, hblk, hgm, hDD, hN, hrow, hfoot, hlt⟩ := h.keep hc1 fun _ _ q => q
  have hmbg : g ≠ mb := fun e => by have := hltw mb hfoot.2.1; omega
  have hpmb : p ≠ mb := hgm.not_blk hblk
  obtain ⟨v0, st, w2, N1, g1, hme, hgm1, hg1, hcm, hst⟩ := cn.entry (show GM slotKey w1.drew mb N gm from hgm.drew 1) x (by unfold maxLen; omega)
  have hlook : ∀ (wx : World) (gx : SlotK → Option Value) (Nx : Nat), GM slotKey wx mb Nx gx → (gx x).getD (.int .i64 0) = (gm x).getD (.int .i64 0) → (Instr.lookup 74 (.map (some mb)) (.agg #[.string x.s, .int .i64 x.p]) false).run Try.prog wx = .ok (.int .i64 (D x)) wx := fun wx gx Nx hgx e => by
    have := GM.look1 hgx Try.underlying74 (cn.zero_int wx) x trivial
    rw [e, hDD] at this
    exact this
  have hS1 : ∃ y : cn.Say w1 mb x (D x), w1.drew = y.1 := ⟨⟨w1.drew, (Chg.refl _ _).drew, hlook _ gm N (hgm.drew 1) rfl⟩, rfl⟩
  have hS2 : ∃ y : cn.Say w1 mb x (D x), w2 = y.1 := ⟨⟨w2, ((Chg.refl w1 (fun k => k = mb)).drew).trans hcm fun _ _ q => q, hlook _ g1 N1 hgm1 hg1⟩, rfl⟩
  have hne : Nonempty (cn.Say w1 mb x (D x)) := hS1.elim fun y _ => ⟨y⟩
  have c4 := hblk.cell 4 rfl
  have l4 := hblk.lt
  obtain ⟨s1, s2⟩ := hx
  unfold cn.sentA at hw1 hb1 ⊢
  rw [s1, s2] at hw1 hb1 ⊢
  obtain ⟨w3, N3, hes, hgm3, hN3, hc3⟩ := hst (.int .i64 (D x + s.count))
  have q4 : ∀ y : cn.Say w1 mb x (D x), y.1.cell? ⟨p, 4, none⟩ = some (.map (some mb)) := fun y => cn.cellP y.2.1 c4 l4 hpmb
  have q0 : ∀ y : cn.Say w1 mb x (D x), y.1.cell? ⟨g, 3, none⟩ = some (.string x.s) := fun y => (y.2.1.blk hb1 hmbg).cell 3 rfl
  have q1 : ∀ y : cn.Say w1 mb x (D x), y.1.cell? ⟨g, 4, none⟩ = some (.int .i64 x.p) := fun y => (y.2.1.blk hb1 hmbg).cell 4 rfl
  have q2 : ∀ y : cn.Say w1 mb x (D x), y.1.cell? ⟨g, 13, none⟩ = some (.int .i64 s.count) := fun y => (y.2.1.blk hb1 hmbg).cell 13 rfl
  have q3 : ∀ y : cn.Say w1 mb x (D x), (Instr.lookup 74 (.map (some mb)) (.agg #[.string x.s, .int .i64 x.p]) false).run Try.prog y.1 = .ok (.int .i64 (D x)) y.1 := fun y => y.2.2
  have v2 : w1.drew.cell? ⟨g, 13, none⟩ = some (.int .i64 s.count) := hb1.cell 13 rfl
  have H1 := Lib.hid (And.intro hS1 (And.intro hS2 (And.intro hgm3 (And.intro hN3 (And.intro hw1 (And.intro hg hc3)))))); clear hS1 hS2 hst hlook hw1 hg hgm3 hN3 hc3
  have hmbu : ¬ uv.ownBlock = some mb := fun e => by
    rcases (show w1.ownsRow 0 83 14 uv 0 [] from hrow).2 with ⟨h1, -⟩ | ⟨k, cap, cur, h1, -, h4, -⟩
    · rw [h1] at e; cases e
    · rw [h1] at e
      obtain rfl : k = mb := by cases e; rfl
      exact hgm.not_blk (T := 83) h4 rfl
  have HB := Lib.hid (And.intro hmbu (And.intro hblk (And.intro hc1 (And.intro hDD (And.intro hN (And.intro hrow (And.intro hfoot (And.intro hlt hltw)))))))); clear hmbu hblk hc1 hDD hN hrow hfoot hlt hltw hb1 h hcm hgm1 hg1 hgm
  go_enter Try.func33, Try.ntmps33
  go_upto_region 1 with fail
  rw [← H1.out.2.2.2.2.1, ← H1.out.2.2.2.2.2.1]
  have hnil : (binOp .eql 74 (.map (some mb)) (.map none)).run Try.prog w1 = .ok (.bool false) w1 := eql_map_nil Try.underlying74 (some mb) w1
  go_upto_region 3 with fail
  clear hnil c4 l4
  refine wp_planz 17 (S := fun w0 => ∃ y : cn.Say w1 mb x (D x), w0 = y.1) (by kernel_rfl) H1.out.1 ?_
  intro hS' K5 hK5
  have HS := Lib.hid hS'; clear hS'
  refine planz_group [true, true, true, true, true, true, true, true, true, true, true, true, true] [0, 1, 2, 3, 4, 5, 6, 7, 8, 9, 10, 11, 12] 5 (by dsimp only [sel]) (by rfl) rfl (by kernel_rfl) (by kernel_rfl) (by kernel_rfl) HS.out ?_
  (repeat go_big_quiet_step (fail)); refine wpQuiet_nil ?_
  refine planz_one [false, false, false, false, false, false, false, false, false, false, false, false, false, true] 13 4 (by dsimp only [sel]) (by rfl) rfl (by kernel_rfl) ?_; intro K1 hK1; go_wp2_with fail
  refine ⟨by first | exact HS.out | exact fun _ => HS.out, ?_⟩
  clear v2
  refine planz_group [false, false, false, false, false, false, false, false, false, false, false, false, false, false, true] [14] 3 (by dsimp only [sel]) (by rfl) rfl (by kernel_rfl) (by kernel_rfl) (by kernel_rfl) HS.out ?_
  (repeat go_big_quiet_step (fail)); refine wpQuiet_nil ?_
  refine planz_one [false, false, false, false, false, false, false, false, false, false, false, false, false, false, false, true] 15 2 (by dsimp only [sel]) (by rfl) rfl (by kernel_rfl) ?_; intro K1 hK1; go_wp2_with fail
  refine ⟨by first | exact H1.out.2.1 | exact fun _ => H1.out.2.1, ?_⟩
  refine planz_group [false, false, false, false, false, false, false, false, false, false, false, false, false, false, false, false, true] [16] 1 (by dsimp only [sel]) (by rfl) rfl (by kernel_rfl) (by kernel_rfl) (by kernel_rfl) H1.out.2.1 ?_
  (repeat go_big_quiet_step (fail)); refine wpQuiet_nil ?_
  refine planz_one [false, false, false, false, false, false, false, false, false, false, false, false, false, false, false, false, false, true] 17 0 (by dsimp only [sel]) (by rfl) rfl (by kernel_rfl) ?_; intro K1 hK1; go_wp2_with fail
  first | (refine ⟨fun h => absurd rfl h, ?_⟩; refine wp_planz_end (by kernel_rfl) ?_) | refine wp_planz_end (by kernel_rfl) ?_ | refine ⟨by kernel_rfl, ?_⟩
  go_wp2_with fail
  go_end0
  obtain ⟨hmbu, hblk, hc1, hDD, hN, hrow, ⟨f1, f2, f3⟩, hlt, hltw⟩ := HB.out
  have hc13 : Chg w1 w3 (fun k => k = mb) := ((Chg.refl w1 (fun k => k = mb)).drew).trans H1.out.2.2.2.2.2.2 fun _ _ q => q
  refine ⟨rfl, ⟨uv, mb, N3, _, hc13.blk hblk hpmb, H1.out.2.2.1, fun u => ?_, by have := H1.out.2.2.2.1; omega, hc13.own hrow fun k hk e => hmbu (by rw [← show k = mb from e]; exact hk), ⟨f1, f2, f3⟩, fun k hk => Nat.lt_of_lt_of_le (hlt k hk) hc13.size⟩, (hc1.mono fun _ _ q => q.elim).trans hc13 fun k _ e => by rw [show k = mb from e]; exact f2⟩
  unfold cn.upd
  by_cases e : u = x
  · subst e
    rw [gput_same, if_pos rfl]
    rfl
  · rw [gput_other _ e, if_neg e]
    exact hDD u
end Go.Proofs.Ytahncanmfjmfnaa

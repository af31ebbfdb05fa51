/- commits: maps.Equal of two that say the same, Same (chapter 18). -/
import Derived.BigQuiet
import Derived.Test.YtkkpbnhagobhmaaCmY
import Derived.Test.YtkkpbnhagobhmaaMapQ
import Derived.Test.YtkkpbnhagobhmaaPlanE
namespace Go.Proofs.Ytkkpbnhagobhmaa
open Go.RowKit Go.Maps
set_option maxRecDepth 100000
set_option maxHeartbeats 2000000 in
theorem mq.equal_place (a b N : Nat) (g : PlK → Option Value) (w : World) (h1 : GM placeKey w a N g) (h2 : GM placeKey w b N g) (hi : ∀ x c, g x = some c → ∃ z : Int, c = .int .i64 z) :
    Calls Try.prog 50 #[.map (some a), .map (some b)] w fun e w' => e = .returned (.bool true) ∧ Below w.heap.size w w' := by
  have l1 := h1.len Try.underlying67
  have l2 := h2.len Try.underlying67
  have hN : ((N : Int) == (N : Int)) = true := by simp
  go_enter Try.func50, Try.ntmps50
  go_wp2_with (refine GM.list_range (κ := placeKey) _ rfl (.tmp 14) Try.underlying67 rfl h1 rfl ?_; intro w1 hgr hc1 hs1; have R1 := Lib.hid (And.intro hgr (And.intro hc1 hs1)); clear hgr hc1 hs1)
  have hb1 : Below w.heap.size w w1 := R1.out.2.1.below (Nat.le_refl _) fun _ q => q.elim
  have h2' := h2.chg R1.out.2.1 fun q => q
  have hls := h1.lt
  have hls2 := h2.lt
  obtain ⟨r, hr⟩ : ∃ r, r = w.heap.size := ⟨_, rfl⟩
  rw [← hr] at R1 hls hls2 ⊢
  have HR := Lib.hid (And.intro h2' (And.intro hb1 (And.intro hr (And.intro hi (And.intro hls hls2))))); clear h2' hb1 hr hi h1 h2 hN l1 l2 hls hls2
  go_frame
  go_loopw [5, 6, 7, 8] (fun _ _ _ _ wx => ∃ left cnt, GR placeKey wx a r N g left cnt ∧ GM placeKey wx b N g ∧ Below w.heap.size w wx ∧ r < wx.heap.size) (fun _ _ _ _ wx => wx.rangeLeft a r)
  case atStart => exact ⟨_, _, R1.out.1, HR.out.1, HR.out.2.1, R1.out.1.lt⟩
  case round =>
    obtain ⟨left, cnt, hgr, hgm, hbl, hrl⟩ := hrel
    have G := Lib.hid (And.intro hgr (And.intro hgm (And.intro hbl hrl))); clear hgr hgm hbl hrl
    go_wp2_with (refine GR.list_next (κ := placeKey) _ rfl (.tmp 15) rfl G.out.1 rfl ?_ ?_)
    · intro _ _
      go_wp2_with fail
      go_ret
      exact ⟨rfl, G.out.2.2.1⟩
    · intro x c w2 left' cnt' hx _ hgx _ _ hgr2 hlt hc2 hs2 hen
      obtain ⟨z, rfl⟩ := HR.out.2.2.2.1 x c hgx
      replace hen : (Instr.entry (.pointer (some ⟨r, 0, none⟩))).run Try.prog w2 = .ok (.tuple #[.agg #[.string x.g, .string x.t, .int .i64 x.p], .int .i64 z]) w2 := hen
      have hne : a ≠ r ∧ b ≠ r := by have := HR.out.2.2; omega
      have hgm2 := G.out.2.1.chg hc2 fun q => hne.2 (by exact q)
      have hbl2 : Below w.heap.size w w2 := G.out.2.2.1.trans (hc2.below G.out.2.2.1.size fun k q => by have q : k = r := q; have := HR.out.2.2.1; omega)
      have hmeas : w2.rangeLeft a r < wr.rangeLeft a r := by rw [hgr2.left_eq, G.out.1.left_eq]; exact hlt
      obtain ⟨w3, hw3⟩ : ∃ w3, w3 = w2.alloc (.cells #[.string x.g, .string x.t, .int .i64 x.p] 72) := ⟨_, rfl⟩
      have hc3 : Chg w2 w3 (fun _ => False) := by rw [hw3]; exact Chg.alloc _ _ _
      have hk3 : Blk w3 w2.heap.size 72 #[.string x.g, .string x.t, .int .i64 x.p] := by rw [hw3]; exact Blk.new _ _ _
      have hgm3 := hgm2.chg hc3 fun q => q
      have hgr3 := hgr2.chg hc3 (fun q => q) fun q => q
      have hmeas3 : w3.rangeLeft a r < wr.rangeLeft a r := by rw [hgr3.left_eq, G.out.1.left_eq]; exact hlt
      have hlk := hgm3.look Try.underlying67 (cm.zero_int w3) x trivial
      rw [hgx] at hlk
      replace hlk : (Instr.lookup 67 (.map (some b)) (.agg #[.string x.g, .string x.t, .int .i64 x.p]) true).run Try.prog w3 = .ok (.tuple #[.int .i64 z, .bool true]) w3 := hlk
      have hfin : Below w.heap.size w w3 := hbl2.trans (hc3.below hbl2.size fun _ q => q.elim)
      have hrl3 : r < w3.heap.size := hgr3.lt
      have E := Lib.hid (And.intro hgr3 (And.intro hgm3 (And.intro hfin (And.intro hrl3 hmeas3)))); clear hgr3 hgm3 hfin hrl3 hmeas3 hmeas hgr2 hgm2 hbl2 hc2 hs2 hgx hc3 hlt hne
      have k0 := hk3.cell 0 (v := .string x.g) rfl
      have k1 := hk3.cell 1 (v := .string x.t) rfl
      have k2 := hk3.cell 2 (v := .int .i64 x.p) rfl
      have kl := hk3.lt
      have zz : (z == z) = true := by simp
      clear hk3
      go_upto_region 6 with fail
      rw [← hw3]
      clear hw3
      go_wp2_with fail
      go_roundw
      case rel => exact ⟨_, _, E.out.1, E.out.2.1, E.out.2.2.1, E.out.2.2.2.1⟩
      case measure => exact E.out.2.2.2.2
set_option maxHeartbeats 2000000 in
theorem mq.equal_str (a b N : Nat) (g : ByteArray → Option Value) (w : World) (h1 : GM strKey w a N g) (h2 : GM strKey w b N g) (hi : ∀ x c, g x = some c → ∃ z : Int, c = .int .i64 z) :
    Calls Try.prog 51 #[.map (some a), .map (some b)] w fun e w' => e = .returned (.bool true) ∧ Below w.heap.size w w' := by
  have l1 := h1.len Try.underlying68
  have l2 := h2.len Try.underlying68
  have hN : ((N : Int) == (N : Int)) = true := by simp
  go_enter Try.func51, Try.ntmps51
  go_wp2_with (refine GM.list_range (κ := strKey) _ rfl (.tmp 14) Try.underlying68 rfl h1 rfl ?_; intro w1 hgr hc1 hs1; have R1 := Lib.hid (And.intro hgr (And.intro hc1 hs1)); clear hgr hc1 hs1)
  have hb1 : Below w.heap.size w w1 := R1.out.2.1.below (Nat.le_refl _) fun _ q => q.elim
  have h2' := h2.chg R1.out.2.1 fun q => q
  have hls := h1.lt
  have hls2 := h2.lt
  obtain ⟨r, hr⟩ : ∃ r, r = w.heap.size := ⟨_, rfl⟩
  rw [← hr] at R1 hls hls2 ⊢
  have HR := Lib.hid (And.intro h2' (And.intro hb1 (And.intro hr (And.intro hi (And.intro hls hls2))))); clear h2' hb1 hr hi h1 h2 hN l1 l2 hls hls2
  go_frame
  go_loopw [5, 6, 7, 8] (fun _ _ _ _ wx => ∃ left cnt, GR strKey wx a r N g left cnt ∧ GM strKey wx b N g ∧ Below w.heap.size w wx ∧ r < wx.heap.size) (fun _ _ _ _ wx => wx.rangeLeft a r)
  case atStart => exact ⟨_, _, R1.out.1, HR.out.1, HR.out.2.1, R1.out.1.lt⟩
  case round =>
    obtain ⟨left, cnt, hgr, hgm, hbl, hrl⟩ := hrel
    have G := Lib.hid (And.intro hgr (And.intro hgm (And.intro hbl hrl))); clear hgr hgm hbl hrl
    go_wp2_with (refine GR.list_next (κ := strKey) _ rfl (.tmp 15) rfl G.out.1 rfl ?_ ?_)
    · intro _ _
      go_wp2_with fail
      go_ret
      exact ⟨rfl, G.out.2.2.1⟩
    · intro x c w2 left' cnt' hx _ hgx _ _ hgr2 hlt hc2 hs2 hen
      obtain ⟨z, rfl⟩ := HR.out.2.2.2.1 x c hgx
      replace hen : (Instr.entry (.pointer (some ⟨r, 0, none⟩))).run Try.prog w2 = .ok (.tuple #[.string x, .int .i64 z]) w2 := hen
      have hne : a ≠ r ∧ b ≠ r := by have := HR.out.2.2; omega
      have hgm2 := G.out.2.1.chg hc2 fun q => hne.2 (by exact q)
      have hbl2 : Below w.heap.size w w2 := G.out.2.2.1.trans (hc2.below G.out.2.2.1.size fun k q => by have q : k = r := q; have := HR.out.2.2.1; omega)
      have hmeas : w2.rangeLeft a r < wr.rangeLeft a r := by rw [hgr2.left_eq, G.out.1.left_eq]; exact hlt
      have hrl2 : r < w2.heap.size := hgr2.lt
      have hlk := hgm2.look Try.underlying68 (cm.zero_int w2) x hx
      rw [hgx] at hlk
      replace hlk : (Instr.lookup 68 (.map (some b)) (.string x) true).run Try.prog w2 = .ok (.tuple #[.int .i64 z, .bool true]) w2 := hlk
      have E := Lib.hid (And.intro hgr2 (And.intro hgm2 (And.intro hbl2 (And.intro hrl2 hmeas)))); clear hgr2 hgm2 hbl2 hrl2 hmeas hc2 hs2 hgx hlt hne
      have zz : (z == z) = true := by simp
      go_wp2_with fail
      go_roundw
      case rel => exact ⟨_, _, E.out.1, E.out.2.1, E.out.2.2.1, E.out.2.2.2.1⟩
      case measure => exact E.out.2.2.2.2
end Go.Proofs.Ytkkpbnhagobhmaa

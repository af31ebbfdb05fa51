/- client: a request is copied; made; tried again. -/
import Derived.Test.YtahncanmfjmfnaaCnE
namespace Go.Proofs.Ytahncanmfjmfnaa
open Go.RowKit Go.Maps
set_option maxRecDepth 100000

theorem cn.clone_bytes (X : Option Addr) (c : Nat) (L : List Nat) (w : World) (hm : L.length ≤ 140737488351232) (hat : At w X L.length (byteAt L)) :
    Calls Try.prog 48 #[.slice X L.length c] w fun e w' => ∃ A2 c2, e = .returned (.slice A2 L.length c2) ∧ w'.ownsRow w.heap.size 5 1 (.slice A2 L.length c2) L.length (u8s L) ∧ Below w.heap.size w w' := by
  refine (clone_any X L.length c L w rfl hm hat).mono ?_
  rintro e w' ⟨⟨v, rfl, h1⟩, h2⟩
  obtain ⟨A2, c2, rfl, -⟩ := own_at h1
  exact ⟨A2, c2, rfl, h1, h2⟩
set_option maxHeartbeats 4000000 in
theorem cn.copy_any (corr : Int) (topic : ByteArray) (part : Int) (X : Option Addr) (c : Nat) (L : List Nat) (w : World) (hm : L.length ≤ 140737488351232) (hat : At w X L.length (byteAt L)) :
    Calls Try.prog 28 #[.agg (cn.req corr topic part (.slice X L.length c))] w fun e w' => ∃ A2 c2, e = .returned (.agg (cn.req corr topic part (.slice A2 L.length c2))) ∧ w'.ownsRow w.heap.size 5 1 (.slice A2 L.length c2) L.length (u8s L) ∧ Below w.heap.size w w' := by
  obtain ⟨m, hml⟩ : ∃ m, m = L.length := ⟨_, rfl⟩
  obtain ⟨g, hg⟩ : ∃ g, g = w.heap.size := ⟨_, rfl⟩
  obtain ⟨w2, hw2⟩ : ∃ w2, w2 = (w.alloc (.cells (cn.req corr topic part (.slice X m c)) 35)).alloc (.cells cn.zero 35) := ⟨_, rfl⟩
  have hs2 : w2.heap.size = g + 2 := by rw [hw2, hg]; simp
  have hb2 : Below g w w2 := by rw [hw2, hg]; exact ((Below.refl _ _).alloc (Nat.le_refl _) _).alloc (by simp) _
  have hk2 : Blk w2 g 35 (cn.req corr topic part (.slice X m c)) := by rw [hw2, hg]; exact (Below.heap_alloc _ _ _ (by simp)).trans (Blk.new w _ _)
  have hz2 : Blk w2 (g + 1) 35 cn.zero := by
    have h := Blk.new (w.alloc (.cells (cn.req corr topic part (.slice X m c)) 35)) 35 cn.zero
    rw [World.size_alloc, ← hg, ← hw2] at h
    exact h
  have hcl := cn.clone_bytes X c L w2 hm (hat.below hb2 (by rw [hg]; exact Nat.le_refl _))
  rw [← hml] at hcl ⊢
  have c12 := hk2.cell 12 (v := .slice X m c) rfl
  have l12 := hk2.lt
  unfold cn.req cn.zero at hw2
  have H2 := Lib.hid (And.intro hs2 (And.intro hb2 (And.intro hk2 (And.intro hz2 (And.intro hw2 (And.intro hg hcl)))))); clear hs2 hb2 hk2 hz2 hw2 hg hcl hat hm
  clear hml
  unfold cn.req
  go_enter Try.func28, Try.ntmps28
  go_upto_region 1 with fail
  rw [← H2.out.2.2.2.2.2.1, ← H2.out.2.2.2.2.1]
  go_upto_region 2 with (go_at_call 48; refine H2.out.2.2.2.2.2.2.mono ?_; rintro e w3 ⟨A2, c2, rfl, h1, h2⟩; have hk3 := (chg_of (P := fun _ => False) h2).blk H2.out.2.2.1 fun q => q; have e12 := hk3.cell 12 (v := .slice X m c) rfl; have f12 := hk3.frozen 12; have l3 := hk3.lt; have H3 := Lib.hid (And.intro h1 (And.intro h2 hk3)); clear h1 h2 hk3)
  clear c12 l12 e12 f12 l3
  obtain ⟨w4, hw4⟩ : ∃ w4, w4 = w3.setCell ⟨g, 12, none⟩ (.slice A2 m c2) := ⟨_, rfl⟩
  rw [← hw4]
  have hk4 : Blk w4 g 35 #[.int .i64 4, .int .i64 corr, .string (ByteArray.mk #[]), .string topic, .int .i64 part, .int .i64 0, .int .i64 0, .int .i64 0, .string (ByteArray.mk #[]), .string (ByteArray.mk #[]), .int .i64 0, .slice none 0 0, .slice A2 m c2] := by rw [hw4]; exact H3.out.2.2.set 12 _
  have hc4 : Chg w3 w4 (fun k => k = g) := by rw [hw4]; exact Chg.setCell _ _ _ _
  have hz3 := (chg_of (P := fun _ => False) H3.out.2.1).blk H2.out.2.2.2.1 fun q => q
  have hz4 : Blk w4 (g + 1) 35 cn.zero := hc4.blk hz3 fun e => by have e : g + 1 = g := e; omega
  have ho4 := hc4.own H3.out.1 fun k hk e => by have h1 := (H3.out.1.lt k hk).1; have h2 := H2.out.1; have e : k = g := e; omega
  have hb4 : Below g w w4 := (H2.out.2.1.trans (H3.out.2.1.mono (by have h2 := H2.out.1; omega))).trans (hc4.below (by have h2 := H2.out.1; have h3 := H3.out.2.1.size; omega) fun k hk => by have hk : k = g := hk; omega)
  have H4 := Lib.hid (And.intro hz4 (And.intro ho4 hb4)); clear hz4 ho4 hb4 hz3 hw4 hc4
  have k0 := hk4.cell 0 rfl
  have k1 := hk4.cell 1 rfl
  have k2 := hk4.cell 2 rfl
  have k3 := hk4.cell 3 rfl
  have k4 := hk4.cell 4 rfl
  have k5 := hk4.cell 5 rfl
  have k6 := hk4.cell 6 rfl
  have k7 := hk4.cell 7 rfl
  have k8 := hk4.cell 8 rfl
  have k9 := hk4.cell 9 rfl
  have k10 := hk4.cell 10 rfl
  have k11 := hk4.cell 11 rfl
  have k12 := hk4.cell 12 rfl
  have l4 := hk4.lt
  clear hk4
  go_wp2_with (refine wpList_store_row rfl 35 (.tmp 2) (.tmp 7) rfl (g + 1) #[.int .i64 4, .int .i64 corr, .string (ByteArray.mk #[]), .string topic, .int .i64 part, .int .i64 0, .int .i64 0, .int .i64 0, .string (ByteArray.mk #[]), .string (ByteArray.mk #[]), .int .i64 0, .slice none 0 0, .slice A2 m c2] rfl rfl 35 _ H4.out.1 cn.infoReq rfl (by simp [Value.oneCell']) ?_)
  have hz5 := cn.blk_row H4.out.1 #[.int .i64 4, .int .i64 corr, .string (ByteArray.mk #[]), .string topic, .int .i64 part, .int .i64 0, .int .i64 0, .int .i64 0, .string (ByteArray.mk #[]), .string (ByteArray.mk #[]), .int .i64 0, .slice none 0 0, .slice A2 m c2]
  have hc5 := cn.chg_row w4 (g + 1) #[.int .i64 4, .int .i64 corr, .string (ByteArray.mk #[]), .string topic, .int .i64 part, .int .i64 0, .int .i64 0, .int .i64 0, .string (ByteArray.mk #[]), .string (ByteArray.mk #[]), .int .i64 0, .slice none 0 0, .slice A2 m c2]
  generalize w4.setRow (g + 1) #[.int .i64 4, .int .i64 corr, .string (ByteArray.mk #[]), .string topic, .int .i64 part, .int .i64 0, .int .i64 0, .int .i64 0, .string (ByteArray.mk #[]), .string (ByteArray.mk #[]), .int .i64 0, .slice none 0 0, .slice A2 m c2] = w5 at *
  refine bodyPost_ret (cn.res_cell1 rfl _ _ _ _ _ rfl hz5 Try.underlying35 rfl cn.infoReq) rfl ?_
  have hg := H2.out.2.2.2.2.2.1
  refine ⟨A2, c2, rfl, ownsRow_base (hc5.own H4.out.2.1 fun k hk e => by have h1 := (H4.out.2.1.lt k hk).1; have h2 := H2.out.1; have e : k = g + 1 := e; omega) (by have h2 := H2.out.1; omega), ?_⟩
  rw [← hg]
  exact H4.out.2.2.trans (hc5.below (by have h2 := H2.out.1; have h3 := H4.out.2.2.size; omega) fun k hk => by have hk : k = g + 1 := hk; omega)
end Go.Proofs.Ytahncanmfjmfnaa

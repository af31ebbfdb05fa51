/- fold: Copy, CopyAll, Records: batches with memory of their own. -/
import Derived.Laws.MakeOwn
import Derived.Maps.AppendAt
import Derived.Test.YtnlfdhoabbbheaaRwR
import Derived.Test.YtnlfdhoabbbheaaFoC
namespace Go.Proofs.Ytnlfdhoabbbheaa
open Go.RowKit
set_option maxRecDepth 20000

theorem fo.infoB : (Try.prog.info? 46).map (fun i => (i.zero, i.size, i.bytes)) = some (some (.agg #[.int .i64 0, .int .i64 0, .int .i64 0, .int .i64 0, .int .i64 0, .slice none 0 0]), 6, 64) := by kernel_rfl
theorem fo.infoB6 : (Try.prog.info? 46).map (·.size) = some 6 := by kernel_rfl
def fo.bcells (b : Bat) (A : Option Addr) (m c : Nat) : Array Value := #[.int .i64 b.base, .int .i64 b.last, .int .i64 b.prod, .int .i64 b.epoch, .int .i64 b.seq, .slice A m c]
def fo.CopyBPost (b : Bat) (m : Nat) (w : World) (e : Ending) (w' : World) : Prop :=
  ∃ A c, e = .returned (.agg (fo.bcells b A m c)) ∧ RowR w' w.heap.size (.slice A m c) b.recs ∧ Below w.heap.size w w'
set_option maxHeartbeats 4000000 in
theorem fo.copyb_any (b : Bat) (A4 : Option Addr) (m c4 : Nat) (w : World) (hrv : RecsV w (.slice A4 m c4) b.recs) (hm : b.recs.length = m) (hm1 : m ≤ 1000000) (hs : ∀ r ∈ b.recs, r.key.length ≤ 1000000 ∧ r.val.length ≤ 1000000) :
    Calls Try.prog 41 #[.agg (fo.bcells b A4 m c4)] w (fo.CopyBPost b m w) := by
  have HRV := Lib.hid hrv; clear hrv
  have HM := Lib.hid hm; clear hm
  have HSZ := Lib.hid hs; clear hs
  obtain ⟨i0, hi, hz0, hz1', hz2⟩ := info_parts rc.info
  have HI := Lib.hid (And.intro hi (And.intro hz0 (And.intro hz1' hz2))); clear hi hz0 hz1' hz2
  unfold fo.bcells
  go_enter Try.func41, Try.ntmps41
  go_upto_region 1 with fail
  obtain ⟨g, hg⟩ : ∃ g, g = w.heap.size := ⟨_, rfl⟩
  obtain ⟨w1, hw1⟩ : ∃ w1, w1 = (w.alloc (.cells #[.int .i64 b.base, .int .i64 b.last, .int .i64 b.prod, .int .i64 b.epoch, .int .i64 b.seq, .slice A4 m c4] 46)).alloc (.cells #[.int .i64 0, .int .i64 0, .int .i64 0, .int .i64 0, .int .i64 0, .slice none 0 0] 46) := ⟨_, rfl⟩
  rw [← hw1, ← hg]
  have hb1 : Below w.heap.size w w1 := by rw [hw1]; exact ((Below.refl _ _).alloc (Nat.le_refl _) _).alloc (by simp) _
  have hk1 : Blk w1 g 46 #[.int .i64 b.base, .int .i64 b.last, .int .i64 b.prod, .int .i64 b.epoch, .int .i64 b.seq, .slice A4 m c4] := by rw [hw1, hg]; exact (Below.heap_alloc _ _ _ (by simp)).trans (Blk.new w _ _)
  have hz1 : Blk w1 (g + 1) 46 #[.int .i64 0, .int .i64 0, .int .i64 0, .int .i64 0, .int .i64 0, .slice none 0 0] := by
    have h := Blk.new (w.alloc (.cells #[.int .i64 b.base, .int .i64 b.last, .int .i64 b.prod, .int .i64 b.epoch, .int .i64 b.seq, .slice A4 m c4] 46)) 46 #[.int .i64 0, .int .i64 0, .int .i64 0, .int .i64 0, .int .i64 0, .slice none 0 0]
    rw [World.size_alloc, ← hg, ← hw1] at h
    exact h
  have hs1 : w1.heap.size = g + 2 := by rw [hw1, hg]; simp
  have HG := Lib.hid hg; clear hw1 hg
  obtain ⟨wm, hmk, hom, hgm⟩ := run_make_own (P := Try.prog) w1 (g + 2) 44 34 i0 _ 6 Try.underlying44 HI.out.1 HI.out.2.1 HI.out.2.2.1 .i64 .i64 m (by rw [HI.out.2.2.2]; omega) (by unfold maxLen; omega) (by omega)
  have hbm : Below w1.heap.size w1 wm := (Below.refl _ w1).grown hgm (Nat.le_refl _) (by simp)
  have hkm : Blk wm g 46 #[.int .i64 b.base, .int .i64 b.last, .int .i64 b.prod, .int .i64 b.epoch, .int .i64 b.seq, .slice A4 m c4] := (hbm.block g hk1.lt).trans hk1
  have hzm : Blk wm (g + 1) 46 #[.int .i64 0, .int .i64 0, .int .i64 0, .int .i64 0, .int .i64 0, .slice none 0 0] := (hbm.block (g + 1) hz1.lt).trans hz1
  have hrow0 : RowR wm (g + 2) (.slice (some ⟨w1.heap.size, 0, none⟩) 0 m) [] := ⟨[], hom, fun i r h => by cases h⟩
  have k5 := hk1.cell 5 rfl
  have l5 := hkm.cell 5 rfl
  have HR0 := Lib.hid (And.intro hrow0 (hb1.trans (hbm.mono hb1.size))); clear hrow0 hom hgm
  have HKZ := Lib.hid (And.intro hkm hzm); clear hkm hzm hk1 hz1
  have hsm : g + 2 ≤ wm.heap.size := by have := hbm.size; omega
  generalize hp0 : w1.heap.size = p0 at *
  clear hp0 hbm hb1 hs1
  go_wp2_with fail
  clear hmk k5 l5
  go_loopw [3, 13] (fun s3 s13 wx => ∃ (j : Nat) (v : Value), v = s3 ∧ s13 = .int .i64 (j : Int) ∧ j ≤ m ∧ RowR wx (g + 2) v (b.recs.take j) ∧ Below (g + 2) wm wx) (fun _ s13 _ => m - (intOf s13).toNat)
  case atStart => exact ⟨0, _, rfl, rfl, by omega, HR0.out.1, Below.refl _ _⟩
  case round =>
    obtain ⟨j, v, rfl, rfl, hj, hrow, hbx⟩ := hrel
    have HBX := Lib.hid hbx; clear hbx
    have HROW := Lib.hid hrow; clear hrow
    have hbw : Below w.heap.size w wr := HR0.out.2.trans (HBX.out.mono (by have := HG.out; omega))
    have HBW := Lib.hid hbw; clear hbw
    by_cases hlt : j < m
    · have hlt' : (j : Int) < m := by omega
      obtain ⟨y, hy⟩ : ∃ y, b.recs[j]? = some y := ⟨_, List.getElem?_eq_getElem (by rw [HM.out]; exact hlt)⟩
      obtain ⟨hyk, hyv⟩ := HSZ.out y (List.mem_of_getElem? hy)
      obtain ⟨pr, off, c', kv, vv, hA, -, -, hpr, d0, d1, d2, d3, d4, d5, ⟨Ak, ck, rfl, hka, -, -, hkb⟩, ⟨Av, cv, rfl, hva, -, -, hvb⟩, hio, hti⟩ := HRV.out.at' hy
      obtain ⟨rfl, rfl⟩ : A4 = some ⟨pr, off, none⟩ ∧ c4 = c' := by simp at hA; exact ⟨hA.1, hA.2.2⟩
      obtain ⟨nk, hnk⟩ : ∃ nk, nk = y.key.length := ⟨_, rfl⟩
      obtain ⟨nv, hnv⟩ : ∃ nv, nv = y.val.length := ⟨_, rfl⟩
      rw [← hnk] at d3 hka hyk
      rw [← hnv] at d5 hva hyv
      have hb0 := HBW.out
      have e0 := (hb0.cell (p := ⟨pr, off + j * 6, none⟩) hpr).trans d0
      have e1 := (hb0.cell (p := ⟨pr, off + j * 6 + 1, none⟩) hpr).trans d1
      have e2 := (hb0.cell (p := ⟨pr, off + j * 6 + 2, none⟩) hpr).trans d2
      have e3 := (hb0.cell (p := ⟨pr, off + j * 6 + 3, none⟩) hpr).trans d3
      have e4 := (hb0.cell (p := ⟨pr, off + j * 6 + 4, none⟩) hpr).trans d4
      have e5 := (hb0.cell (p := ⟨pr, off + j * 6 + 5, none⟩) hpr).trans d5
      have hwa : ∀ o, Below wr.heap.size wr (wr.alloc o) := fun o => (Below.refl _ _).alloc (Nat.le_refl _) _
      have hcp := fun o => fo.copy_any y Ak nk ck Av nv cv (wr.alloc o) ((hka.below hb0 (Nat.le_refl _)).below (hwa o) (Nat.le_refl _)) hnk.symm hyk ((hva.below hb0 (Nat.le_refl _)).below (hwa o) (Nat.le_refl _)) hnv.symm hyv
      unfold fo.CopyPost fo.cells at hcp
      have HCP := Lib.hid hcp; clear hcp
      have HY := Lib.hid (And.intro hkb (And.intro hvb (And.intro hio (And.intro hti (And.intro hy (And.intro hnk hnv)))))); clear hkb hvb hio hti hy hnk hnv hb0 d0 d1 d2 d3 d4 d5 hka hva hA
      obtain ⟨xs0, hown0, hcells0⟩ := HROW.out
      have hlen0 : (b.recs.take j).length = j := by rw [List.length_take, HM.out]; omega
      rw [hlen0] at hown0
      obtain ⟨Ar, cr, rfl, -, -⟩ := own_at hown0
      have hrlt := hown0.lt
      have hrs : g + 2 ≤ wr.heap.size := by have := HBX.out.size; omega
      clear hown0 hcells0
      go_wp2_with fail
      refine (HCP.out _).mono ?_
      rintro e w4 ⟨Ak2, ck2, Av2, cv2, rfl, hOk, hOv, hb4⟩
      have hb14 : Below wr.heap.size wr w4 := (hwa _).trans (hb4.mono (by simp))
      have hb15 : Below wr.heap.size wr (w4.alloc (.cells #[.int .i64 y.off, .int .i64 y.time, .bool y.hasKey, .slice Ak2 nk ck2, .bool y.hasVal, .slice Av2 nv cv2] 34)) := hb14.alloc hb14.size _
      obtain ⟨xs, hown, hcells⟩ := HROW.out.below hb15
      have hxl := hown.1
      rw [hlen0] at hown hxl
      have hs5 : wr.heap.size + 1 ≤ w4.heap.size := by have := hb4.size; simp at this; omega
      have hs6 : (w4.alloc (.cells #[.int .i64 y.off, .int .i64 y.time, .bool y.hasKey, .slice Ak2 nk ck2, .bool y.hasVal, .slice Av2 nv cv2] 34)).heap.size = w4.heap.size + 1 := by simp
      have hkey : ∀ {A : Option Addr} {n c : Nat} {L : List Nat} {o : Obj}, L.length = n → (∀ x ∈ L, x < 256) → fo.Own (wr.alloc o).heap.size w4 A n c L → KeyR (w4.alloc (.cells #[.int .i64 y.off, .int .i64 y.time, .bool y.hasKey, .slice Ak2 nk ck2, .bool y.hasVal, .slice Av2 nv cv2] 34)) (g + 2) (.slice Ar j cr) (.slice A n c) L := fun {A n c L o} hl h256 h => by
        subst hl
        refine ⟨⟨A, c, rfl, h.1.alloc _, h.2.1, h.2.2.1, h256⟩, fun q hq => ?_⟩
        have h5 := h.2.2.2.2 q hq
        simp only [World.size_alloc] at h5 ⊢
        refine ⟨by omega, by omega, fun hh => ?_⟩
        have := (hrlt q hh).2
        omega
      have hkk := hkey HY.out.2.2.2.2.2.1.symm HY.out.1 hOk
      have hvv := hkey HY.out.2.2.2.2.2.2.symm HY.out.2.1 hOv
      have happ : ∀ v2 w9, w9.ownsRow (g + 2) 34 6 v2 (j + 1) (xs ++ [.int .i64 y.off, .int .i64 y.time, .bool y.hasKey, .slice Ak2 nk ck2, .bool y.hasVal, .slice Av2 nv cv2]) → (w4.alloc (.cells #[.int .i64 y.off, .int .i64 y.time, .bool y.hasKey, .slice Ak2 nk ck2, .bool y.hasVal, .slice Av2 nv cv2] 34)).grownBy w9 (Value.slice Ar j cr).ownBlock → (v2.ownBlock = (Value.slice Ar j cr).ownBlock ∨ v2.ownBlock = some (w4.alloc (.cells #[.int .i64 y.off, .int .i64 y.time, .bool y.hasKey, .slice Ak2 nk ck2, .bool y.hasVal, .slice Av2 nv cv2] 34)).heap.size) →
          RowR w9 (g + 2) v2 (b.recs.take (j + 1)) ∧ Below (g + 2) wm w9 := fun v2 w9 h1 h2 h3 => by
        obtain ⟨hjl, hjy⟩ := List.getElem?_eq_some_iff.1 HY.out.2.2.2.2.1
        refine ⟨?_, (HBX.out.trans (hb15.mono hrs)).grown h2 (by rw [hs6]; omega) (fun q hq => (hrlt q hq).1)⟩
        rw [List.take_succ_eq_append_getElem hjl, hjy]
        exact RowR.append (r := y) hcells (by rw [hlen0]; exact hxl) hkk hvv HY.out.2.2.1 HY.out.2.2.2.1 (by rw [hlen0]; exact h1) h2 h3
      have HAPP := Lib.hid happ; clear happ hcells hxl hkk hvv hkey
      have HOWN := Lib.hid hown; clear hown hOk hOv hb4 hb14 hb15 hwa e0 e1 e2 e3 e4 e5 hlen0
      go_wp2_with (at_builtin; refine wpList_append_own_at _ rfl (.tmp 17) (.tmp 20) 44 rfl (g + 2) 34 i0 _ 6 80 Try.underlying44 HI.out.1 HI.out.2.1 HI.out.2.2.1 HI.out.2.2.2 rfl (by decide) (.slice Ar j cr) j xs rfl HOWN.out ⟨w4.heap.size, 0, none⟩ 1 1 [.int .i64 y.off, .int .i64 y.time, .bool y.hasKey, .slice Ak2 nk ck2, .bool y.hasVal, .slice Av2 nv cv2] rfl rfl (cells_new _ [.int .i64 y.off, .int .i64 y.time, .bool y.hasKey, .slice Ak2 nk ck2, .bool y.hasVal, .slice Av2 nv cv2] _ _ rfl) (by simp [Value.oneCell']) (by unfold maxLen; omega) (by omega) (by simp; omega) ?_; intro v2 w9 h1 h2 _ h3)
      have HN := Lib.hid (HAPP.out v2 w9 h1 h2 h3); clear h1 h2 h3
      go_wp2_with fail
      go_roundw
      case rel => exact ⟨j + 1, v2, rfl, by go_num, by omega, HN.out.1, HN.out.2⟩
      case measure => simp [intOf]; omega
    · obtain rfl : j = m := by omega
      have hrow := HROW.out
      rw [List.take_of_length_le (by rw [HM.out]; exact Nat.le_refl _)] at hrow
      obtain ⟨xs0, hown0, -⟩ := id hrow
      rw [HM.out] at hown0
      obtain ⟨Ar, cr, rfl, -, -⟩ := own_at hown0
      clear hown0
      have hk : Blk wr g 46 #[.int .i64 b.base, .int .i64 b.last, .int .i64 b.prod, .int .i64 b.epoch, .int .i64 b.seq, .slice A4 j c4] := (HBX.out.block g (by omega)).trans HKZ.out.1
      have hz : Blk wr (g + 1) 46 #[.int .i64 0, .int .i64 0, .int .i64 0, .int .i64 0, .int .i64 0, .slice none 0 0] := (HBX.out.block (g + 1) (by omega)).trans HKZ.out.2
      have c5 := hk.cell 5 rfl
      have f5 := hk.frozen 5
      obtain ⟨w5, hw5⟩ : ∃ w5, w5 = wr.setCell ⟨g, 5, none⟩ (.slice Ar j cr) := ⟨_, rfl⟩
      have hc5 : Chg wr w5 (fun k => k = g) := by rw [hw5]; exact Chg.setCell _ _ _ _
      have hk5 : Blk w5 g 46 #[.int .i64 b.base, .int .i64 b.last, .int .i64 b.prod, .int .i64 b.epoch, .int .i64 b.seq, .slice Ar j cr] := by rw [hw5]; exact hk.set 5 _
      have hz5 : Blk w5 (g + 1) 46 #[.int .i64 0, .int .i64 0, .int .i64 0, .int .i64 0, .int .i64 0, .slice none 0 0] := hc5.blk hz (by omega)
      have hr5 : RowR w5 (g + 2) (.slice Ar j cr) b.recs := hrow.chg hc5 fun q h1 _ h2 => by have h2 : q = g := h2; omega
      have hb5 : Below w.heap.size w w5 := HBW.out.trans (hc5.below HBW.out.size fun k hk => by have hk : k = g := hk; rw [hk, HG.out]; exact Nat.le_refl _)
      have HW5 := Lib.hid hw5; clear hw5
      have H5 := Lib.hid (And.intro hr5 hb5); clear hr5 hb5 hc5 hk hz hrow
      have k0 := hk5.cell 0 rfl
      have k1 := hk5.cell 1 rfl
      have k2 := hk5.cell 2 rfl
      have k3 := hk5.cell 3 rfl
      have k4 := hk5.cell 4 rfl
      have k5 := hk5.cell 5 rfl
      have HZ := Lib.hid hz5; clear hz5 hk5
      go_upto_region 8 with fail
      rw [← HW5.out]
      clear HW5 c5 f5
      go_wp2_with (refine wpList_store_row rfl 46 (.tmp 2) (.tmp 25) rfl (g + 1) #[.int .i64 b.base, .int .i64 b.last, .int .i64 b.prod, .int .i64 b.epoch, .int .i64 b.seq, .slice Ar j cr] rfl rfl 46 _ HZ.out fo.infoB6 rfl (by simp [Value.oneCell']) ?_)
      have hc6 := fo.chg_row w5 (g + 1) #[.int .i64 b.base, .int .i64 b.last, .int .i64 b.prod, .int .i64 b.epoch, .int .i64 b.seq, .slice Ar j cr]
      have hz6 := fo.blk_row HZ.out #[.int .i64 b.base, .int .i64 b.last, .int .i64 b.prod, .int .i64 b.epoch, .int .i64 b.seq, .slice Ar j cr]
      generalize w5.setRow (g + 1) #[.int .i64 b.base, .int .i64 b.last, .int .i64 b.prod, .int .i64 b.epoch, .int .i64 b.seq, .slice Ar j cr] = w6 at *
      refine bodyPost_ret (res_cell1 rfl _ _ _ _ _ rfl hz6 Try.underlying46 rfl fo.infoB6) rfl ?_
      exact ⟨Ar, cr, rfl, (H5.out.1.chg hc6 fun q h1 _ h2 => by have h2 : q = g + 1 := h2; omega).up (by have := HG.out; omega), H5.out.2.trans (hc6.below H5.out.2.size fun k hk => by have hk : k = g + 1 := hk; have := HG.out; omega)⟩
end Go.Proofs.Ytnlfdhoabbbheaa

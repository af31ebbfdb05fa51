/- The walk of the law BatchLimits. -/
import Derived.Test.YtndingohckcmdaaLmB
import Derived.Deep.CutRange
import Derived.Test.YtndingohckcmdaaFrz
namespace Go.Proofs.Ytndingohckcmdaa
open Go.RowKit

theorem lim.make (n : Nat) (hn : n ≤ 3000) : ∃ Z : Array Value, (∀ wx : World, (Instr.makeSlice 27 (.int .i64 (n : Int)) (.int .i64 (n : Int))).run Try.prog wx = .ok (.slice (some ⟨wx.heap.size, 0, none⟩) n n) (wx.alloc (.cells Z 5))) ∧ (∀ (wx : World) (b : Nat), Blk wx b 5 Z → BytesV wx (.slice (some ⟨b, 0, none⟩) n n) (List.replicate n 0)) := by
  obtain ⟨iu, hu, hu0, hu1, hu2⟩ := info_parts infoByte
  refine ⟨madeCells (Value.int .u8 0).cells (n * 1), fun wx => ?_, fun wx b hb => ⟨some ⟨b, 0, none⟩, n, by rw [List.length_replicate], ?_, by rw [List.length_replicate]; exact Nat.le_refl _, by unfold maxLen; omega, fun x hx => by rw [List.eq_of_mem_replicate hx]; decide⟩⟩
  · have hr := run_make (P := Try.prog) wx 27 5 iu (.int .u8 0) Try.underlying27 hu hu0 .i64 .i64 (n : Int) (n : Int) (by omega) (Int.le_refl _) (by rw [hu2]; omega) (by omega)
    rw [hu1, Int.toNat_natCast] at hr
    exact hr
  · rw [List.length_replicate]
    refine fun h0 => ⟨b, 0, rfl, hb.lt, fun j hj => ?_⟩
    rw [Nat.zero_add]
    refine hb.cell j ?_
    unfold madeCells byteAt
    simp [Value.cells, hj, List.getD, Nat.mod_one]
theorem Blk.new' {w : World} {p : Nat} (T : TypeId) (cs : Array Value) (h : p = w.heap.size) : Blk (w.alloc (.cells cs T)) p T cs := by subst h; exact Blk.new _ _ _
theorem Blk.old {w : World} {p : Nat} {T : TypeId} {cs : Array Value} (o : Obj) (h : Blk w p T cs) : Blk (w.alloc o) p T cs := (Chg.alloc w o (fun _ => False)).blk h id
theorem Blk.dr {w : World} {p : Nat} {T : TypeId} {cs : Array Value} (h : Blk w p T cs) : Blk w.drew p T cs := h
theorem lim.oneV {wx : World} {b59 bk bv km vm : Nat} (h59 : Blk wx b59 62 #[.int .i64 0, .int .i64 0, .bool true, .slice (some ⟨bk, 0, none⟩) km km, .bool true, .slice (some ⟨bv, 0, none⟩) vm vm])
    (hk : BytesV wx (.slice (some ⟨bk, 0, none⟩) km km) (List.replicate km 0)) (hv : BytesV wx (.slice (some ⟨bv, 0, none⟩) vm vm) (List.replicate vm 0)) : RecsV wx (.slice (some ⟨b59, 0, none⟩) 1 1) [lim.one km vm] := by
  refine ⟨some ⟨b59, 0, none⟩, 1, fun j => (#[.int .i64 0, .int .i64 0, .bool true, .slice (some ⟨bk, 0, none⟩) km km, .bool true, .slice (some ⟨bv, 0, none⟩) vm vm] : Array Value).getD j undef, rfl, Nat.le_refl _, by decide, fun _ => ⟨b59, 0, rfl, h59.lt, fun j hj => ?_⟩, fun i r hi => ?_⟩
  · rw [Nat.zero_add]
    refine h59.cell j ?_
    match j, hj with
    | 0, _ => rfl
    | 1, _ => rfl
    | 2, _ => rfl
    | 3, _ => rfl
    | 4, _ => rfl
    | 5, _ => rfl
  · have h0 : i = 0 := by have := (List.getElem?_eq_some_iff.1 hi).1; simpa using this
    subst h0
    obtain rfl : lim.one km vm = r := by simpa using hi
    exact ⟨_, _, rfl, hk, hv, by unfold i64ok lim.one; simp, by unfold i64ok lim.one; simp⟩
theorem lim.app (j : Nat) : lim.row j ++ cellsOf (1 * 6) (fun k => (lim.cells j).getD k undef) = lim.row (j + 1) := by rw [lim.row_succ]; rfl

set_option maxRecDepth 20000 in
set_option maxHeartbeats 4000000 in
theorem bat.lawLimits (rs ks vs : Int) (w : World) :
    Calls Try.prog 9 #[.int .i64 rs, .int .i64 ks, .int .i64 vs] w fun e w' => e = .returned (.bool true) ∧ Below w.heap.size w w' := by
  obtain ⟨i0, hi, hz0, hz1, hz2⟩ := info_parts bat.infoRec
  by_cases hr : rs < 0 ∨ 110 < rs ∨ ks < 0 ∨ 210 < ks ∨ vs < 0 ∨ 2010 < vs
  · have hgo : ∀ wx, Calls Try.prog 12 #[] wx fun e w' => e = .returned (.bool true) ∧ Below wx.heap.size wx w' := law5.awake
    have HGO := Lib.hid hgo; clear hgo
    have hr2 : rs < 0 ∨ (¬ rs < 0 ∧ 110 < rs) ∨ (¬ rs < 0 ∧ ¬ 110 < rs ∧ ks < 0) ∨ (¬ rs < 0 ∧ ¬ 110 < rs ∧ ¬ ks < 0 ∧ 210 < ks) ∨ (¬ rs < 0 ∧ ¬ 110 < rs ∧ ¬ ks < 0 ∧ ¬ 210 < ks ∧ vs < 0) ∨ (¬ rs < 0 ∧ ¬ 110 < rs ∧ ¬ ks < 0 ∧ ¬ 210 < ks ∧ ¬ vs < 0 ∧ 2010 < vs) := by omega
    clear hr
    rcases hr2 with h1 | ⟨h1, h2⟩ | ⟨h1, h2, h3⟩ | ⟨h1, h2, h3, h4⟩ | ⟨h1, h2, h3, h4, h5⟩ | ⟨h1, h2, h3, h4, h5, h6⟩
    all_goals
      go_enter Try.func9, Try.ntmps9
      go_wp2_with fail
      refine (HGO.out w).mono ?_
      rintro e wd ⟨rfl, hbd⟩
      have HBD := Lib.hid hbd; clear hbd
      go_wp2
      go_ret
      exact ⟨rfl, HBD.out⟩
  obtain ⟨n, rfl⟩ : ∃ n : Nat, rs = (n : Int) := ⟨rs.toNat, by omega⟩
  obtain ⟨km, rfl⟩ : ∃ n : Nat, ks = (n : Int) := ⟨ks.toNat, by omega⟩
  obtain ⟨vm, rfl⟩ : ∃ n : Nat, vs = (n : Int) := ⟨vs.toNat, by omega⟩
  have hn : n ≤ 110 := by omega
  have hkm : km ≤ 210 := by omega
  have hvm : vm ≤ 2010 := by omega
  clear hr
  obtain ⟨M, hM, hcase⟩ : ∃ M : Int, M = max ((n : Int) - 1) 0 ∧ (((n : Int) - 1 < 0 ∧ M = 0) ∨ (¬ (n : Int) - 1 < 0 ∧ M = (n : Int) - 1)) := ⟨_, rfl, by omega⟩
  have HM := Lib.hid hM; clear hM
  obtain ⟨w1, hw1⟩ : ∃ w1, w1 = w.alloc (.cells #[.int .i64 0, .int .i64 M, .int .i64 0, .int .i64 0, .int .i64 0, .slice none 0 0] 24) := ⟨_, rfl⟩
  have hbk : Blk w1 w.heap.size 24 #[.int .i64 0, .int .i64 M, .int .i64 0, .int .i64 0, .int .i64 0, .slice none 0 0] := by rw [hw1]; exact Blk.new _ _ _
  have hb1 : Below w.heap.size w w1 := by rw [hw1]; exact (Below.refl _ w).alloc (Nat.le_refl _) _
  have HBK := Lib.hid hbk; clear hbk
  have HB1 := Lib.hid hb1; clear hb1
  have HI := Lib.hid (And.intro hi (And.intro hz0 (And.intro hz1 hz2))); clear hi hz0 hz1 hz2
  obtain ⟨ZK, hmk, hak⟩ := lim.make km (by omega)
  obtain ⟨ZV, hmv, hav⟩ := lim.make vm (by omega)
  have HAK := Lib.hid hak; clear hak
  have HAV := Lib.hid hav; clear hav
  go_enter Try.func9, Try.ntmps9
  go_upto_region 3 with fail
  go_cut [7] from 36 to 39 (fun s7 wx => s7 = .pointer (some ⟨w.heap.size, 0, none⟩) ∧ wx = w1)
  case first =>
    rcases hcase with ⟨hc, hMc⟩ | ⟨hc, hMc⟩
    all_goals
      go_wp2_with fail
      go_meet
      case rel => exact ⟨rfl, by rw [hw1, hMc]⟩
  case rest =>
    obtain ⟨rfl, rfl⟩ := hcut
    clear hcase hw1
    go_wp2_with fail
    go_loopw [8] (fun i wr => ∃ (j : Nat) (v : Value), j ≤ n ∧ i = .int .i64 (j : Int) ∧ wr.ownsRow (w.heap.size + 1) 62 6 v j (lim.row j) ∧ Blk wr w.heap.size 24 #[.int .i64 0, .int .i64 M, .int .i64 0, .int .i64 0, .int .i64 0, v] ∧ Below w.heap.size w wr) (fun i _ => n - (intOf i).toNat)
    case atStart => exact ⟨0, .slice none 0 0, by omega, rfl, ⟨rfl, .inl ⟨rfl, rfl⟩⟩, HBK.out, HB1.out⟩
    case round =>
      obtain ⟨j, v, hj, rfl, hown, hblk, hbw⟩ := hrel
      obtain ⟨A, c, rfl, hjc, hat⟩ := own_at hown
      clear hat
      have HOWN := Lib.hid hown; clear hown
      have HBL := Lib.hid hblk
      have HBW := Lib.hid hbw; clear hbw
      have hlt0 : w.heap.size < wr.heap.size := hblk.lt
      have c0 : wr.cell? ⟨w.heap.size, 0, none⟩ = some (.int .i64 0) := hblk.cell 0 rfl
      have c1 : wr.cell? ⟨w.heap.size, 1, none⟩ = some (.int .i64 M) := hblk.cell 1 rfl
      have c5 : wr.cell? ⟨w.heap.size, 5, none⟩ = some (.slice A j c) := hblk.cell 5 rfl
      have hfr := fun k => hblk.frozen k
      clear hblk
      by_cases hlt : j < n
      · go_wp2_with (at_builtin; go_loud (refine wpList_app2 _ rfl (.tmp 46) (.tmp 49) 22 rfl (w.heap.size + 1) 62 i0 _ 6 80 Try.underlying22 HI.out.1 HI.out.2.1 HI.out.2.2.1 HI.out.2.2.2 rfl (by decide) _ j (lim.row j) rfl (HOWN.out.alloc _) (some ⟨wr.heap.size, 0, none⟩) 1 1 (fun k => (lim.cells j).getD k undef) rfl ((At.new wr #[.int .i64 (j : Int), .int .i64 0, .bool false, .slice none 0 0, .bool false, .slice none 0 0] 62 (n := 1 * 6) rfl).congr fun k hk => by match k, hk with | 0, _ => rfl | 1, _ => rfl | 2, _ => rfl | 3, _ => rfl | 4, _ => rfl | 5, _ => rfl) (fun k hk => by match k, hk with | 0, _ => rfl | 1, _ => rfl | 2, _ => rfl | 3, _ => rfl | 4, _ => rfl | 5, _ => rfl) (by unfold maxLen; omega) (by omega) (by simp; omega) ?_; intro v2 w2 hown2 hg2 hl2; clear hl2; obtain ⟨g2, c2, hv2, -, -, -, -, -⟩ := own_pos5 hown2 (by omega); subst hv2; rw [lim.app] at hown2; have HO2 := Lib.hid hown2; clear hown2; have hb2 := (Chg.grown hg2).blk ((Chg.alloc wr _ (fun _ => False)).blk HBL.out id) (fun hh => by have := (HOWN.out.lt _ hh).1; omega); have HG2 := Lib.hid ((Chg.grown hg2).below (B := w.heap.size) (by simp; omega) (fun k hk => by have := (HOWN.out.lt _ hk).1; omega)); clear hg2; have d5 := hb2.cell 5 (v := .slice A j c) rfl; have f5 := hb2.frozen 5; have HBX := Lib.hid hb2; clear hb2 c0 c1 c5 hfr))
        go_roundw
        case rel =>
          refine ⟨j + 1, _, by omega, by go_num, (Chg.setCell w2 w.heap.size 5 _).own HO2.out (fun k hk hh => by have hh : k = w.heap.size := hh; have := (HO2.out.lt k hk).1; omega), HBX.out.set 5 _, ?_⟩
          have h3 := HBW.out.alloc HBW.out.size (.cells #[.int .i64 (j : Int), .int .i64 0, .bool false, .slice none 0 0, .bool false, .slice none 0 0] 62)
          have h4 := h3.trans HG2.out
          exact (below_set ⟨h4, h4.size⟩ (Nat.le_refl _) 5 _).1
        case measure => simp [intOf]; omega
      · obtain rfl : j = n := by omega
        obtain ⟨A', c', hA, hrv⟩ := lim.recsV HOWN.out hn
        obtain ⟨rfl, rfl⟩ : A = A' ∧ c = c' := by simpa using hA
        have hval : (lim.bat j).recs = lim.recs 0 j := rfl
        have HRV := Lib.hid hrv; clear hrv hA hval HOWN
        have hck := lim.bat_check j hn
        have HCK := Lib.hid hck; clear hck
        go_upto_if 53 with fail
        go_cut [9] from 52 to 53 (fun s9 wx => s9 = .int .i64 (if 100 < j then 3 else 0) ∧ wx = wr)
        case first =>
          by_cases h100 : 100 < j
          · go_wp2_with fail
            go_meet
            case rel => exact ⟨by rw [if_pos h100], rfl⟩
          · go_wp2_with fail
            go_meet
            case rel => exact ⟨by rw [if_neg h100], rfl⟩
        case rest =>
          obtain ⟨rfl, rfl⟩ := hcut
          rw [← HCK.out]
          go_upto_region 11 with fail
          go_cut [10] from 54 to 60 (fun s10 wx => (∃ b10 b59, s10 = .pointer (some ⟨b10, 0, none⟩) ∧ wc.heap.size ≤ b10 ∧ Blk wx b10 24 #[.int .i64 0, .int .i64 0, .int .i64 0, .int .i64 0, .int .i64 0, .slice (some ⟨b59, 0, none⟩) 1 1] ∧ RecsV wx (.slice (some ⟨b59, 0, none⟩) 1 1) [lim.one km vm]) ∧ Below wc.heap.size wc wx)
          case first =>
            go_wp2_with fail
            go_region
            all_goals
              go_wp2_with fail
              go_meet
              case rel =>
                refine ⟨?_, bdrew ?_ 1⟩
                · apply Exists.intro
                  apply Exists.intro
                  refine ⟨rfl, by omega, ?_, ?_⟩
                  · refine Blk.dr ?_
                    repeat (first | exact Blk.new' _ _ (by first | rfl | (simp; done) | (simp; omega)) | refine Blk.old _ ?_)
                  · apply lim.oneV
                    · refine Blk.dr ?_
                      repeat (first | exact Blk.new' _ _ (by first | rfl | (simp; done) | (simp; omega)) | refine Blk.old _ ?_)
                    · refine HAK.out _ _ (Blk.dr ?_)
                      repeat (first | exact Blk.new' _ _ (by first | rfl | (simp; done) | (simp; omega)) | refine Blk.old _ ?_)
                    · refine HAV.out _ _ (Blk.dr ?_)
                      repeat (first | exact Blk.new' _ _ (by first | rfl | (simp; done) | (simp; omega)) | refine Blk.old _ ?_)
                · repeat (first | exact Below.refl _ _ | refine Below.alloc ?_ (by first | omega | (simp; done) | (simp; omega)) _)
          case rest =>
            obtain ⟨⟨b10, b59, rfl, hge, hb10, hone⟩, hbx⟩ := hcut
            have HB10 := Lib.hid hb10; clear hb10
            have HONE := Lib.hid hone; clear hone
            have HBX := Lib.hid hbx; clear hbx
            go_upto_region 13 with fail
            go_cut [66] from 61 to 66 (fun s66 wx => s66 = .bool (decide (200 < km ∨ 2000 < vm)) ∧ wx = wc)
            case first =>
              by_cases h1 : 200 < km
              · go_wp2_with fail
                go_meet
                case rel => exact ⟨by first | (simp; omega) | (simp [*]; done) | (simp_all; done) | (simp_all; omega), rfl⟩
              · by_cases h2 : 2000 < vm
                · have h2' : (2000 : Int) < (vm : Int) := by omega
                  go_wp2_with fail
                  go_meet
                  case rel => exact ⟨by first | (simp [h1, h2]; done) | (simp [h1, h2]; omega), rfl⟩
                · have h2' : ¬ (2000 : Int) < (vm : Int) := by omega
                  go_wp2_with fail
                  go_meet
                  case rel => exact ⟨by first | (simp [h1, h2]; done) | (simp [h1, h2]; omega), rfl⟩
            case rest =>
              obtain ⟨rfl, rfl⟩ := hcut
              obtain ⟨G, hG⟩ : ∃ G : Int, G = if 200 < km ∨ 2000 < vm then 3 else 0 := ⟨_, rfl⟩
              have HG := Lib.hid hG; clear hG
              go_upto_if 66 with fail
              go_cut [11] from 61 to 66 (fun s11 wx => s11 = .int .i64 G ∧ wx = wc)
              case first =>
                by_cases hbig : 200 < km ∨ 2000 < vm
                · rw [decide_eq_true hbig]
                  go_wp2_with fail
                  go_meet
                  case rel => exact ⟨by rw [HG.out, if_pos hbig], rfl⟩
                · rw [decide_eq_false hbig]
                  go_wp2_with fail
                  go_meet
                  case rel => exact ⟨by rw [HG.out, if_neg hbig], rfl⟩
              case rest =>
                obtain ⟨rfl, rfl⟩ := hcut
                have q0 : wc.cell? ⟨b10, 0, none⟩ = some (.int .i64 0) := HB10.out.cell 0 rfl
                have q1 : wc.cell? ⟨b10, 1, none⟩ = some (.int .i64 0) := HB10.out.cell 1 rfl
                have q2 : wc.cell? ⟨b10, 2, none⟩ = some (.int .i64 0) := HB10.out.cell 2 rfl
                have q3 : wc.cell? ⟨b10, 3, none⟩ = some (.int .i64 0) := HB10.out.cell 3 rfl
                have q4 : wc.cell? ⟨b10, 4, none⟩ = some (.int .i64 0) := HB10.out.cell 4 rfl
                have q5 : wc.cell? ⟨b10, 5, none⟩ = some (.slice (some ⟨b59, 0, none⟩) 1 1) := HB10.out.cell 5 rfl
                have hlt10 : b10 < wc.heap.size := HB10.out.lt
                go_upto_region 17 with fail
                rw [conv_mark 27 5 Try.underlying27 Try.underlying5 _ _ _ _ _ (by simp)]
                go_upto_region 17 with fail
                obtain ⟨w5, hw5⟩ : ∃ w5, w5 = ((wc.alloc (.cells #[.int .i64 0, .int .i64 0, .int .i64 0, .int .i64 0, .int .i64 0, .slice (some ⟨wc.heap.size + 1 + 1, 0, none⟩) 1 1] 24)).alloc (.cells #[.int .u8 107] 5 (1, 2))).alloc (.cells #[.int .i64 0, .int .i64 0, .bool false, .slice (some ⟨wc.heap.size + 1, 0, none⟩) 1 1, .bool false, .slice none 0 0] 62) := ⟨_, rfl⟩
                rw [← hw5]
                have hbx : Below wc.heap.size wc w5 := by rw [hw5]; exact (((Below.refl _ wc).alloc (Nat.le_refl _) _).alloc (by simp) _).alloc (by simp; omega) _
                have hb12 : Blk w5 wc.heap.size 24 #[.int .i64 0, .int .i64 0, .int .i64 0, .int .i64 0, .int .i64 0, .slice (some ⟨wc.heap.size + 1 + 1, 0, none⟩) 1 1] := by rw [hw5]; exact Blk.old _ (Blk.old _ (Blk.new _ _ _))
                have hb73 : Blk w5 (wc.heap.size + 1 + 1) 62 #[.int .i64 0, .int .i64 0, .bool false, .slice (some ⟨wc.heap.size + 1, 0, none⟩) 1 1, .bool false, .slice none 0 0] := by rw [hw5]; exact Blk.new' _ _ (by simp)
                have hq : w5.cell? ⟨wc.heap.size + 1, 0, none⟩ = some (.int .u8 107) := by rw [hw5, cell_old_new _ _ _ _ _ _ _ (by simp)]; rfl
                have hnv := lim.noneV hb73 hq (by have := hb73.lt; omega)
                have hb7 : Blk w5 w.heap.size 24 #[.int .i64 0, .int .i64 M, .int .i64 0, .int .i64 0, .int .i64 0, .slice A j c] := (chg_of (P := fun _ => False) hbx).blk ((chg_of (P := fun _ => False) HBX.out).blk HBL.out id) id
                have hb10 : Blk w5 b10 24 #[.int .i64 0, .int .i64 0, .int .i64 0, .int .i64 0, .int .i64 0, .slice (some ⟨b59, 0, none⟩) 1 1] := (chg_of (P := fun _ => False) hbx).blk HB10.out id
                have hone5 := HONE.out.below hbx (Nat.le_refl _)
                have hrv5 := (HRV.out.below HBX.out (Nat.le_refl _)).below hbx (Nat.le_refl _)
                have hb05 : Below w.heap.size w w5 := (HBW.out.trans (HBX.out.mono HBW.out.size)).trans (hbx.mono (Nat.le_trans HBW.out.size HBX.out.size))
                clear hw5 hq hb73 hbx q0 q1 q2 q3 q4 q5 c0 c1 c5 hfr
                have hca : ∀ wx, Below w5.heap.size w5 wx → Calls Try.prog 17 #[.agg #[.int .i64 0, .int .i64 M, .int .i64 0, .int .i64 0, .int .i64 0, .slice A j c]] wx fun e w' => e = .returned (.int .i64 (lim.bat j).check) ∧ Below wx.heap.size wx w' := fun wx h => by
                  have h2 := bat.check_any (lim.bat j) A c wx (hrv5.below h (Nat.le_refl _))
                  unfold Bat.hval at h2
                  rw [show (lim.bat j).recs.length = j from lim.recs_len 0 j, show (lim.bat j).last = M from HM.out.symm] at h2
                  exact h2
                have hcb : ∀ wx, Below w5.heap.size w5 wx → Calls Try.prog 17 #[.agg #[.int .i64 0, .int .i64 0, .int .i64 0, .int .i64 0, .int .i64 0, .slice (some ⟨b59, 0, none⟩) 1 1]] wx fun e w' => e = .returned (.int .i64 G) ∧ Below wx.heap.size wx w' := fun wx h => by
                  have h2 := bat.check_any (lim.oneb km vm) (some ⟨b59, 0, none⟩) 1 wx (hone5.below h (Nat.le_refl _))
                  rw [lim.one_check km vm hkm hvm, ← HG.out] at h2
                  exact h2
                have hcc : ∀ wx, Below w5.heap.size w5 wx → Calls Try.prog 19 #[.agg #[.int .i64 0, .int .i64 0, .int .i64 0, .int .i64 0, .int .i64 0, .slice (some ⟨b59, 0, none⟩) 1 1]] wx fun e w' => e = .returned (.int .i64 (lim.oneb km vm).sizeof) ∧ Below wx.heap.size wx w' := fun wx h => bat.sizeof_any (lim.oneb km vm) (some ⟨b59, 0, none⟩) 1 wx (hone5.below h (Nat.le_refl _))
                have hcd : ∀ wx, Below w5.heap.size w5 wx → Calls Try.prog 17 #[.agg #[.int .i64 0, .int .i64 0, .int .i64 0, .int .i64 0, .int .i64 0, .slice (some ⟨wc.heap.size + 1 + 1, 0, none⟩) 1 1]] wx fun e w' => e = .returned (.int .i64 1) ∧ Below wx.heap.size wx w' := fun wx h => by
                  have h2 := bat.check_any lim.noneb (some ⟨wc.heap.size + 1 + 1, 0, none⟩) 1 wx (hnv.below h (Nat.le_refl _))
                  rw [lim.none_check] at h2
                  exact h2
                have hce : ∀ wx, Calls Try.prog 17 #[.agg #[.int .i64 0, .int .i64 0, .int .i64 0, .int .i64 1, .int .i64 0, .slice none 0 0]] wx fun e w' => e = .returned (.int .i64 1) ∧ Below wx.heap.size wx w' := fun wx => by
                  have h2 := bat.check_any ⟨0, 0, 0, 1, 0, []⟩ none 0 wx (RecsV.none5 wx)
                  rw [lim.epoch_check] at h2
                  exact h2
                have hcf : ∀ wx, Calls Try.prog 17 #[.agg #[.int .i64 0, .int .i64 0, .int .i64 1, .int .i64 1, .int .i64 0, .slice none 0 0]] wx fun e w' => e = .returned (.int .i64 0) ∧ Below wx.heap.size wx w' := fun wx => by
                  have h2 := bat.check_any ⟨0, 0, 1, 1, 0, []⟩ none 0 wx (RecsV.none5 wx)
                  rw [lim.prod_check] at h2
                  exact h2
                have hS := lim.one_sizeof km vm hkm hvm
                generalize (lim.oneb km vm).sizeof = S at *
                generalize (lim.bat j).check = E at *
                have HCA := Lib.hid hca; clear hca
                have HCB := Lib.hid hcb; clear hcb
                have HCC := Lib.hid hcc; clear hcc
                have HCD := Lib.hid hcd; clear hcd
                have HCE := Lib.hid hce; clear hce
                have HCF := Lib.hid hcf; clear hcf
                have HB7 := Lib.hid hb7
                have HB10' := Lib.hid hb10
                have HB12 := Lib.hid hb12
                have HB05 := Lib.hid hb05; clear hb05
                have c70 : w5.cell? ⟨w.heap.size, 0, none⟩ = some (.int .i64 0) := hb7.cell 0 rfl
                have c71 : w5.cell? ⟨w.heap.size, 1, none⟩ = some (.int .i64 M) := hb7.cell 1 rfl
                have c72 : w5.cell? ⟨w.heap.size, 2, none⟩ = some (.int .i64 0) := hb7.cell 2 rfl
                have c73 : w5.cell? ⟨w.heap.size, 3, none⟩ = some (.int .i64 0) := hb7.cell 3 rfl
                have c74 : w5.cell? ⟨w.heap.size, 4, none⟩ = some (.int .i64 0) := hb7.cell 4 rfl
                have c75 : w5.cell? ⟨w.heap.size, 5, none⟩ = some (.slice A j c) := hb7.cell 5 rfl
                clear hb7 hb10 hb12 hnv hone5 hrv5
                have hSG : (200 < km ∨ 2000 < vm) ∧ G = 3 ∧ ¬ 0 < S ∨ ¬ (200 < km ∨ 2000 < vm) ∧ G = 0 ∧ 0 < S := by
                  have hg := HG.out
                  by_cases hbig : 200 < km ∨ 2000 < vm
                  · rw [if_pos hbig] at hg
                    exact .inl ⟨hbig, hg, fun h => hS.1 h hbig⟩
                  · rw [if_neg hbig] at hg
                    exact .inr ⟨hbig, hg, hS.2 hbig⟩
                clear hS HG
                rcases hSG with ⟨-, rfl, hS⟩ | ⟨-, rfl, hS⟩
                all_goals
                  go_wp2_with fail
                  refine (HCA.out w5 (Below.refl _ _)).mono ?_
                  rintro e w6 ⟨rfl, hb6⟩
                  have HB6 := Lib.hid hb6
                  have hb10 := (chg_of (P := fun _ => False) hb6).blk HB10'.out id
                  have d0 : w6.cell? ⟨b10, 0, none⟩ = some (.int .i64 0) := hb10.cell 0 rfl
                  have d1 : w6.cell? ⟨b10, 1, none⟩ = some (.int .i64 0) := hb10.cell 1 rfl
                  have d2 : w6.cell? ⟨b10, 2, none⟩ = some (.int .i64 0) := hb10.cell 2 rfl
                  have d3 : w6.cell? ⟨b10, 3, none⟩ = some (.int .i64 0) := hb10.cell 3 rfl
                  have d4 : w6.cell? ⟨b10, 4, none⟩ = some (.int .i64 0) := hb10.cell 4 rfl
                  have d5 : w6.cell? ⟨b10, 5, none⟩ = some (.slice (some ⟨b59, 0, none⟩) 1 1) := hb10.cell 5 rfl
                  clear hb6 hb10 c70 c71 c72 c73 c74 c75
                  go_wp2_with fail
                  refine (HCB.out w6 HB6.out).mono ?_
                  rintro e w7 ⟨rfl, hb7⟩
                  have HB7' := Lib.hid (HB6.out.trans (hb7.mono HB6.out.size))
                  have hb10 := (chg_of (P := fun _ => False) HB7'.out).blk HB10'.out id
                  have e0 : w7.cell? ⟨b10, 0, none⟩ = some (.int .i64 0) := hb10.cell 0 rfl
                  have e1 : w7.cell? ⟨b10, 1, none⟩ = some (.int .i64 0) := hb10.cell 1 rfl
                  have e2 : w7.cell? ⟨b10, 2, none⟩ = some (.int .i64 0) := hb10.cell 2 rfl
                  have e3 : w7.cell? ⟨b10, 3, none⟩ = some (.int .i64 0) := hb10.cell 3 rfl
                  have e4 : w7.cell? ⟨b10, 4, none⟩ = some (.int .i64 0) := hb10.cell 4 rfl
                  have e5 : w7.cell? ⟨b10, 5, none⟩ = some (.slice (some ⟨b59, 0, none⟩) 1 1) := hb10.cell 5 rfl
                  clear hb7 hb10 d0 d1 d2 d3 d4 d5
                  go_wp2_with fail
                  refine (HCC.out w7 HB7'.out).mono ?_
                  rintro e w8 ⟨rfl, hb8⟩
                  have HB8 := Lib.hid (HB7'.out.trans (hb8.mono HB7'.out.size))
                  have hb12 := (chg_of (P := fun _ => False) HB8.out).blk HB12.out id
                  have f0 : w8.cell? ⟨wc.heap.size, 0, none⟩ = some (.int .i64 0) := hb12.cell 0 rfl
                  have f1 : w8.cell? ⟨wc.heap.size, 1, none⟩ = some (.int .i64 0) := hb12.cell 1 rfl
                  have f2 : w8.cell? ⟨wc.heap.size, 2, none⟩ = some (.int .i64 0) := hb12.cell 2 rfl
                  have f3 : w8.cell? ⟨wc.heap.size, 3, none⟩ = some (.int .i64 0) := hb12.cell 3 rfl
                  have f4 : w8.cell? ⟨wc.heap.size, 4, none⟩ = some (.int .i64 0) := hb12.cell 4 rfl
                  have f5 : w8.cell? ⟨wc.heap.size, 5, none⟩ = some (.slice (some ⟨wc.heap.size + 1 + 1, 0, none⟩) 1 1) := hb12.cell 5 rfl
                  clear hb8 hb12 e0 e1 e2 e3 e4 e5
                  go_wp2_with fail
                  refine (HCD.out w8 HB8.out).mono ?_
                  rintro e w9 ⟨rfl, hb9⟩
                  have HB9 := Lib.hid (HB8.out.trans (hb9.mono HB8.out.size))
                  clear hb9 f0 f1 f2 f3 f4 f5
                  go_wp2_with fail
                  refine (HCE.out w9).mono ?_
                  rintro e wa ⟨rfl, hba⟩
                  have HBa := Lib.hid (HB9.out.trans (hba.mono HB9.out.size))
                  clear hba
                  go_wp2_with fail
                  refine (HCF.out wa).mono ?_
                  rintro e wb ⟨rfl, hbb⟩
                  have HBb := Lib.hid (HBa.out.trans (hbb.mono HBa.out.size))
                  clear hbb
                  go_wp2_with fail
                  refine (law5.awake wb).mono ?_
                  rintro e wd ⟨rfl, hbd⟩
                  have HBd := Lib.hid (HBb.out.trans (hbd.mono HBb.out.size))
                  clear hbd
                  go_wp2
                  go_ret
                  refine ⟨?_, HB05.out.trans (HBd.out.mono HB05.out.size)⟩
                  first
                    | rfl
                    | (show Ending.returned (Value.bool (!decide (0 < S))) = _; rw [decide_eq_false (by omega)]; rfl)
end Go.Proofs.Ytndingohckcmdaa

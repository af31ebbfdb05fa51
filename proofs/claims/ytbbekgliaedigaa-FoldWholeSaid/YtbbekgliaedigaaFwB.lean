/- The law FoldWhole (cordwainlaw13): it answers true, whatever the input. -/
import Derived.Test.YtbbekgliaedigaaFwA
import Derived.Test.YtbbekgliaedigaaFoP
import Derived.Test.YtbbekgliaedigaaFoF
namespace Go.Proofs.Ytbbekgliaedigaa
open Go.RowKit Go.Maps

theorem pf.eqs_is : ∀ l1 l2 : List PItm, l1.map PItm.is = l2.map PItm.is → pf.eqs l1 l2 = true
  | [], [], _ => rfl
  | [], _ :: _, h => by cases h
  | _ :: _, [], h => by cases h
  | x :: xs, y :: ys, h => by
    rw [List.map_cons, List.map_cons, List.cons.injEq] at h
    obtain ⟨h1, h2⟩ := h
    unfold PItm.is at h1
    unfold pf.eqs pf.eqv
    rw [pf.eqs_is xs ys h2, show x.bs = y.bs from congrArg Prod.fst h1, show x.vs = y.vs from congrArg (fun t => t.2.1) h1, decide_eq_true rfl, decide_eq_true rfl]
    rfl
theorem FoIs.eqs {l1 l2 : List PItm} {rs : List Rec} (h1 : FoIs l1 rs) (h2 : FoIs l2 rs) : pf.eqs l1 l2 = true := pf.eqs_is l1 l2 (by
  have h := congrArg (List.map Prod.snd) (h1.same h2)
  rw [List.map_map, List.map_map] at h
  exact h)
theorem fw.joined_small {bs : List Bat} {t : Int} (h : fo.Small bs) (h60 : bs.length ≤ 60) : fo.Small (rs.all 0 t bs ++ rs.all t 4611686018427387905 bs) := by
  have hone : ∀ (f g : Int) (b : Bat), b ∈ rs.all f g bs → b.recs.length ≤ 1000000 ∧ ∀ r ∈ b.recs, r.key.length ≤ 1000000 ∧ r.val.length ≤ 1000000 := fun f g b hb => by
    obtain ⟨hb, -⟩ := List.mem_filter.1 hb
    obtain ⟨c, hc, rfl⟩ := List.mem_map.1 hb
    obtain ⟨h1, h2⟩ := h.2 c hc
    refine ⟨Nat.le_trans (List.length_filter_le _ _) h1, fun r hr => h2 r (List.mem_filter.1 hr).1⟩
  refine ⟨?_, fun b hb => ?_⟩
  · have h1 := rs.all_len 0 t bs
    have h2 := rs.all_len t 4611686018427387905 bs
    rw [List.length_append]
    omega
  · rcases List.mem_append.1 hb with hb | hb
    · exact hone _ _ b hb
    · exact hone _ _ b hb

set_option maxRecDepth 100000 in
set_option maxHeartbeats 8000000 in
theorem law13.whole (A : Option Addr) (n c : Nat) (bs : List Bat) (a : Int) (w : World) (hcm : bs.length = n ∧ n ≤ c ∧ c ≤ maxLen) (hbs : BatsAt w A bs) (ha : -9223372036854775808 ≤ a ∧ a ≤ 9223372036854775807) :
    Calls Try.prog 9 #[.slice A n c, .int .i64 a] w fun e w' => e = .returned (.bool true) ∧ Below w.heap.size w w' := by
  obtain ⟨hbn, hnc, hcm⟩ := hcm
  have hsmall := law13.small_any A n c bs w hbs hbn (Nat.le_trans hnc hcm)
  unfold maxLen at hcm
  have HSM := Lib.hid hsmall; clear hsmall
  have HBS := Lib.hid hbs; clear hbs
  have HBN := Lib.hid hbn; clear hbn
  have HAW := Lib.hid (fun wx => law13.awake_any wx)
  obtain ⟨i0, hi, hz0, hz1, hz2⟩ := info_parts fo.infoB
  have HI := Lib.hid (And.intro hi (And.intro hz0 (And.intro hz1 hz2))); clear hi hz0 hz1 hz2
  go_enter Try.func9, Try.ntmps9
  go_wp2_with fail
  refine HSM.out.mono ?_
  rintro e w1 ⟨⟨b, rfl, hmay⟩, hb1⟩
  have HB1 := Lib.hid hb1; clear hb1 HSM
  cases b with
  | false =>
    clear hmay
    go_wp2_with fail
    refine (HAW.out w1).mono ?_
    rintro e w2 ⟨rfl, hb2⟩
    have HB2 := Lib.hid (show Below w.heap.size w w2 from HB1.out.trans (hb2.mono HB1.out.size)); clear hb2
    go_wp2_with fail
    go_ret
    exact ⟨rfl, HB2.out⟩
  | true =>
    have h60 := (hmay rfl).1
    obtain ⟨hsm, hfl, -⟩ := (hmay rfl).small
    clear hmay
    rw [HBN.out] at h60
    have HFL := Lib.hid (And.intro hsm hfl); clear hsm hfl
    go_wp2_with fail
    go_loopw [5] (fun s5 wx => ∃ k : Nat, s5 = .int .i64 (k : Int) ∧ k ≤ n ∧ fw.Up bs k ∧ Below w.heap.size w wx) (fun s5 _ => n - (intOf s5).toNat)
    case atStart => exact ⟨0, rfl, by omega, fw.up_zero bs, HB1.out⟩
    case round =>
      obtain ⟨k, rfl, hk, hup, hbw⟩ := hrel
      clear HB1
      have HBW := Lib.hid hbw; clear hbw
      have HUP := Lib.hid hup; clear hup
      by_cases hlt : k < n
      · have hlt' : (k : Int) < n := by omega
        obtain ⟨x, hx⟩ : ∃ x, bs[k]? = some x := ⟨_, List.getElem?_eq_getElem (by rw [HBN.out]; exact hlt)⟩
        obtain ⟨p, po, v5, hA, hp, d0, d1, d2, d3, d4, d5, hrv, -⟩ := HBS.out.at' hx
        subst hA
        obtain ⟨A4, c4, V4, rfl, -⟩ := id hrv
        have hcx := fun (wx : World) (h : Below w.heap.size w wx) => ref.check_any x A4 c4 wx (hrv.below h (Nat.le_refl _))
        unfold Bat.hval at hcx
        have hnx := fun (hc : x.check = 0) (hl : ∀ a, 0 < k → bs[k - 1]? = some a → a.last < x.base) => fw.up_succ HUP.out hx hc hl
        have HCX := Lib.hid hcx; clear hcx
        have HNX := Lib.hid hnx; clear hnx hx hrv
        generalize x.recs.length = m at *
        have hpw := Nat.lt_of_lt_of_le hp HBW.out.size
        have g0 : wr.drew.cell? ⟨p, po + k * 6, none⟩ = some (.int .i64 x.base) := (HBW.out.cell (p := ⟨p, po + k * 6, none⟩) hp).trans d0
        have g1 : wr.drew.cell? ⟨p, po + k * 6 + 1, none⟩ = some (.int .i64 x.last) := (HBW.out.cell (p := ⟨p, po + k * 6 + 1, none⟩) hp).trans d1
        have g2 : wr.drew.cell? ⟨p, po + k * 6 + 2, none⟩ = some (.int .i64 x.prod) := (HBW.out.cell (p := ⟨p, po + k * 6 + 2, none⟩) hp).trans d2
        have g3 : wr.drew.cell? ⟨p, po + k * 6 + 3, none⟩ = some (.int .i64 x.epoch) := (HBW.out.cell (p := ⟨p, po + k * 6 + 3, none⟩) hp).trans d3
        have g4 : wr.drew.cell? ⟨p, po + k * 6 + 4, none⟩ = some (.int .i64 x.seq) := (HBW.out.cell (p := ⟨p, po + k * 6 + 4, none⟩) hp).trans d4
        have g5 : wr.drew.cell? ⟨p, po + k * 6 + 5, none⟩ = some (.slice A4 m c4) := (HBW.out.cell (p := ⟨p, po + k * 6 + 5, none⟩) hp).trans d5
        have q0 : ∀ y : Stand w, y.1.cell? ⟨p, po + k * 6, none⟩ = some (.int .i64 x.base) := fun y => (y.2.cell (p := ⟨p, po + k * 6, none⟩) hp).trans d0
        clear d0 d1 d2 d3 d4 d5
        go_upto_region 6 with fail
        have hS0 : ∃ y : Stand w, wr.drew = y.1 := stand_of (bdrew HBW.out 1)
        refine wp_plan (S := fun w0 => ∃ y : Stand w, w0 = y.1) (by kernel_rfl) hS0 ?_
        intro hS K5 hK5
        have HS := Lib.hid hS; clear hS hS0
        refine plan_group [true, true, true] [0, 1, 2] 21 (by dsimp only [sel]) (by rfl) rfl (by kernel_rfl) (by kernel_rfl) HS.out ?_
        (repeat go_big_quiet_step (fail)); refine wpQuiet_nil ?_
        refine plan_one [false, false, false, true] 3 20 (by dsimp only [sel]) (by rfl) rfl (by kernel_rfl) ?_; intro K1 hK1; go_wp2_with fail
        refine ⟨HS.out, ?_⟩
        clear g0 g1 g2 g3 g4 g5
        refine plan_one [false, false, false, false, true] 4 19 (by dsimp only [sel]) (by rfl) rfl (by kernel_rfl) ?_; intro K1 hK1; go_wp2_with fail
        refine (HCX.out _ (bdrew HBW.out 1)).mono ?_
        rintro e w2 ⟨rfl, hb2⟩
        have HB2 := Lib.hid (show Below w.heap.size w w2 from (bdrew HBW.out 1).trans (hb2.mono (bdrew HBW.out 1).size)); clear hb2 HS
        go_wp2_with fail
        refine ⟨stand_of HB2.out, ?_⟩
        generalize x.check = E at *
        by_cases hE : E = 0
        · subst hE
          by_cases hk0 : (0 : Int) < k
          · have hkd : decide (0 < k) = true := decide_eq_true (by omega)
            obtain ⟨K, hKk⟩ : ∃ K, k = K + 1 := ⟨k - 1, by omega⟩
            have hK : (k : Int) - 1 = (K : Int) := by omega
            have hKn : (K : Int) < n := by omega
            obtain ⟨y, hy⟩ : ∃ y, bs[K]? = some y := ⟨_, List.getElem?_eq_getElem (by rw [HBN.out]; omega)⟩
            obtain ⟨p2, po2, v6, hA6, hp2, -, d1, -⟩ := HBS.out.at' hy
            have hpp : p = p2 ∧ po = po2 := by simpa using hA6
            obtain ⟨rfl, rfl⟩ := hpp
            have hp2w := Nat.lt_of_lt_of_le hp HB2.out.size
            have u1 : w2.cell? ⟨p, po + K * 6 + 1, none⟩ = some (.int .i64 y.last) := (HB2.out.cell (p := ⟨p, po + K * 6 + 1, none⟩) hp).trans d1
            have hnx : y.last < x.base → fw.Up bs (k + 1) := fun hlt => HNX.out rfl fun a _ ha => by
              rw [show k - 1 = K from by omega, hy] at ha
              rw [← Option.some.inj ha]
              exact hlt
            have HN0 := Lib.hid hnx; clear hnx hy d1 hA6 HNX
            have HKK := Lib.hid hKk; clear hKk
            generalize y.last = yl at *
            generalize x.base = xb at *
            by_cases hle : xb ≤ yl
            · clear HN0
              refine plan_group [false, false, false, false, false, true, true, true, true, true, true, true, true, true, true, true, true, true, true, true] [5, 6, 7, 8, 9, 10, 11, 12, 13, 14, 15, 16, 17, 18, 19] 4 (by dsimp only [sel]) (by rfl) rfl (by kernel_rfl) (by kernel_rfl) (stand_of HB2.out) ?_
              (repeat go_big_quiet_step (fail)); refine wpQuiet_nil ?_
              refine plan_one [false, false, false, false, false, false, false, false, false, false, false, false, false, false, false, false, false, false, false, false, true] 20 3 (by dsimp only [sel]) (by rfl) rfl (by kernel_rfl) ?_; intro K1 hK1; go_wp2_with fail
              refine ⟨stand_of HB2.out, ?_⟩
              refine plan_group [false, false, false, false, false, false, false, false, false, false, false, false, false, false, false, false, false, false, false, false, false, true, true, true] [21, 22, 23] 0 (by dsimp only [sel]) (by rfl) rfl (by kernel_rfl) (by kernel_rfl) (stand_of HB2.out) ?_
              (repeat go_big_quiet_step (fail)); refine wpQuiet_nil ?_
              refine wp_plan_end (by kernel_rfl) ?_
              refine hK5 _ _ ?_
              go_wp2_with fail
              refine (HAW.out w2).mono ?_
              rintro e w3 ⟨rfl, hb3⟩
              have HB3 := Lib.hid (show Below w.heap.size w w3 from HB2.out.trans (hb3.mono HB2.out.size)); clear hb3
              go_wp2_with fail
              go_ret
              exact ⟨rfl, HB3.out⟩
            · have HN := Lib.hid (HN0.out (by omega)); clear HN0
              refine plan_group [false, false, false, false, false, true, true, true, true, true, true, true, true, true, true, true, true, true, true, true] [5, 6, 7, 8, 9, 10, 11, 12, 13, 14, 15, 16, 17, 18, 19] 4 (by dsimp only [sel]) (by rfl) rfl (by kernel_rfl) (by kernel_rfl) (stand_of HB2.out) ?_
              (repeat go_big_quiet_step (fail)); refine wpQuiet_nil ?_
              refine plan_one [false, false, false, false, false, false, false, false, false, false, false, false, false, false, false, false, false, false, false, false, true] 20 3 (by dsimp only [sel]) (by rfl) rfl (by kernel_rfl) ?_; intro K1 hK1; go_wp2_with fail
              refine ⟨stand_of HB2.out, ?_⟩
              refine plan_group [false, false, false, false, false, false, false, false, false, false, false, false, false, false, false, false, false, false, false, false, false, true, true, true] [21, 22, 23] 0 (by dsimp only [sel]) (by rfl) rfl (by kernel_rfl) (by kernel_rfl) (stand_of HB2.out) ?_
              (repeat go_big_quiet_step (fail)); refine wpQuiet_nil ?_
              refine wp_plan_end (by kernel_rfl) ?_
              refine hK5 _ _ ?_
              go_wp2_with fail
              go_roundw
              case rel => exact ⟨k + 1, by go_num, by omega, HN.out, HB2.out⟩
              case measure => simp [intOf]; omega
          · have hkd : decide (0 < k) = false := decide_eq_false (by omega)
            have HN := Lib.hid (HNX.out rfl fun a h _ => absurd h (by omega)); clear HNX
            refine plan_group [false, false, false, false, false, true, true, true, true, true, true, true, true, true, true, true, true, true, true, true] [5, 6, 7, 8, 9, 10, 11, 12, 13, 14, 15, 16, 17, 18, 19] 4 (by dsimp only [sel]) (by rfl) rfl (by kernel_rfl) (by kernel_rfl) (stand_of HB2.out) ?_
            (repeat go_big_quiet_step (fail)); refine wpQuiet_nil ?_
            refine plan_one [false, false, false, false, false, false, false, false, false, false, false, false, false, false, false, false, false, false, false, false, true] 20 3 (by dsimp only [sel]) (by rfl) rfl (by kernel_rfl) ?_; intro K1 hK1; go_wp2_with fail
            refine ⟨stand_of HB2.out, ?_⟩
            refine plan_group [false, false, false, false, false, false, false, false, false, false, false, false, false, false, false, false, false, false, false, false, false, true, true, true] [21, 22, 23] 0 (by dsimp only [sel]) (by rfl) rfl (by kernel_rfl) (by kernel_rfl) (stand_of HB2.out) ?_
            (repeat go_big_quiet_step (fail)); refine wpQuiet_nil ?_
            refine wp_plan_end (by kernel_rfl) ?_
            refine hK5 _ _ ?_
            go_wp2_with fail
            go_roundw
            case rel => exact ⟨k + 1, by go_num, by omega, HN.out, HB2.out⟩
            case measure => simp [intOf]; omega
        · have hd : (E != 0) = true := by simpa using hE
          clear HNX
          refine plan_group [false, false, false, false, false, true, true, true, true, true, true, true, true, true, true, true, true, true, true, true] [5, 6, 7, 8, 9, 10, 11, 12, 13, 14, 15, 16, 17, 18, 19] 4 (by dsimp only [sel]) (by rfl) rfl (by kernel_rfl) (by kernel_rfl) (stand_of HB2.out) ?_
          (repeat go_big_quiet_step (fail)); refine wpQuiet_nil ?_
          refine plan_one [false, false, false, false, false, false, false, false, false, false, false, false, false, false, false, false, false, false, false, false, true] 20 3 (by dsimp only [sel]) (by rfl) rfl (by kernel_rfl) ?_; intro K1 hK1; go_wp2_with fail
          refine ⟨stand_of HB2.out, ?_⟩
          refine plan_group [false, false, false, false, false, false, false, false, false, false, false, false, false, false, false, false, false, false, false, false, false, true, true, true] [21, 22, 23] 0 (by dsimp only [sel]) (by rfl) rfl (by kernel_rfl) (by kernel_rfl) (stand_of HB2.out) ?_
          (repeat go_big_quiet_step (fail)); refine wpQuiet_nil ?_
          refine wp_plan_end (by kernel_rfl) ?_
          refine hK5 _ _ ?_
          go_wp2_with fail
          refine (HAW.out w2).mono ?_
          rintro e w3 ⟨rfl, hb3⟩
          have HB3 := Lib.hid (show Below w.heap.size w w3 from HB2.out.trans (hb3.mono HB2.out.size)); clear hb3
          go_wp2_with fail
          go_ret
          exact ⟨rfl, HB3.out⟩
      · obtain rfl : k = n := by omega
        have hup : fw.Up bs bs.length := by rw [HBN.out]; exact HUP.out
        clear HUP
        have hlen1 := rs.all_len 0 a bs
        have hlen2 := rs.all_len a 4611686018427387905 bs
        rw [HBN.out] at hlen1 hlen2
        have hr1 := fun (wx : World) (h : Below w.heap.size w wx) => fr.restrict_any A k c bs 0 a wx (HBS.out.below h (Nat.le_refl _)) HBN.out HFL.out.1
        have hr2 := fun (wx : World) (h : Below w.heap.size w wx) => fr.restrict_any A k c bs a 4611686018427387905 wx (HBS.out.below h (Nat.le_refl _)) HBN.out HFL.out.1
        have hwhole := fw.whole (t := a) hup
        have hsmj := fw.joined_small (t := a) HFL.out.1 (by rw [HBN.out]; exact h60)
        unfold fr.Post at hr1 hr2
        generalize rs.all 0 a bs = X1 at *
        generalize rs.all a 4611686018427387905 bs = X2 at *
        obtain ⟨m1, hm1⟩ : ∃ m1, m1 = X1.length := ⟨_, rfl⟩
        obtain ⟨m2, hm2⟩ : ∃ m2, m2 = X2.length := ⟨_, rfl⟩
        rw [← hm1] at hr1 hlen1
        rw [← hm2] at hr2 hlen2
        obtain ⟨nr, hnr⟩ : ∃ nr, nr = (rc.flat bs).length := ⟨_, rfl⟩
        have hnr4 : nr ≤ 4000 := by rw [hnr]; exact HFL.out.2
        have hjoin := fun (Aj : Option Addr) (m cj : Nat) (wx : World) (hm : (X1 ++ X2).length = m) (h : BatsAt wx Aj (X1 ++ X2)) => fo.batches_any Aj m cj (X1 ++ X2) wx hm hsmj (by rw [hwhole, ← hnr]; omega) h
        have hbat := fun (wx : World) (h : Below w.heap.size w wx) => fo.batches_any A k c bs wx HBN.out HFL.out.1 (by rw [← hnr]; omega) (HBS.out.below h (Nat.le_refl _))
        have hrecj := fun (Aj : Option Addr) (m cj : Nat) (wx : World) (hm : (X1 ++ X2).length = m) (hm1 : m ≤ 1000000) (h : BatsAt wx Aj (X1 ++ X2)) => rc.records_any Aj (X1 ++ X2) m cj wx h hm hm1 (by rw [hwhole, ← hnr]; omega)
        have hrec := fun (wx : World) (h : Below w.heap.size w wx) => rc.records_any A bs k c wx (HBS.out.below h (Nat.le_refl _)) HBN.out (by omega) (by rw [← hnr]; omega)
        unfold rc.Post at hrecj hrec
        rw [hwhole] at hrecj hjoin
        rw [← hnr] at hrecj hrec
        have HR1 := Lib.hid hr1; clear hr1
        have HR2 := Lib.hid hr2; clear hr2
        have HJ := Lib.hid hjoin; clear hjoin
        have HBAT := Lib.hid hbat; clear hbat
        have HRECJ := Lib.hid hrecj; clear hrecj
        have HREC := Lib.hid hrec; clear hrec
        have HM := Lib.hid (And.intro hm1 hm2); clear hm1 hm2 hnr hup hwhole hsmj
        go_wp2_with fail
        refine (HR1.out wr HBW.out).mono ?_
        rintro e w2 ⟨A2, c2, rfl, hc2, hcm2, ha2, hb2⟩
        have H2 := Lib.hid ha2; clear ha2
        have HB2 := Lib.hid (HBW.out.trans (hb2.mono HBW.out.size)); clear hb2 HBW
        go_wp2_with fail
        refine (HR2.out w2 HB2.out).mono ?_
        rintro e w3 ⟨A3, c3, rfl, hc3, hcm3, ha3, hb3⟩
        obtain ⟨V1, hat1, hel1⟩ := H2.out.below hb3 (Nat.le_refl _)
        obtain ⟨V2, hat2, hel2⟩ := ha3
        have HB3 := Lib.hid (HB2.out.trans (hb3.mono HB2.out.size)); clear hb3 HB2 H2
        have hone1 := fw.ones hel1
        have hone2 := fw.ones hel2
        rw [← HM.out.1] at hat1 hone1
        rw [← HM.out.2] at hat2 hone2
        have HX := Lib.hid (And.intro (And.intro hat1 hone1) (And.intro hat2 hone2)); clear hat1 hone1 hat2 hone2
        have HEL := Lib.hid (And.intro hel1 hel2); clear hel1 hel2
        have hrange : a < 0 ∨ (¬ a < 0 ∧ 4611686018427387904 < a) ∨ (¬ a < 0 ∧ ¬ 4611686018427387904 < a) := by omega
        rcases hrange with hlo | ⟨hlo, hhi⟩ | ⟨hlo, hhi⟩
        case inr.inr =>
          have hm0 : (w3.alloc (.cells #[] 47)).ownsRow w3.heap.size 47 6 (.slice (some ⟨w3.heap.size, 0, none⟩) 0 0) 0 [] := World.ownsRow_made w3 #[] 0 (Nat.le_refl _) (by unfold maxLen; omega) (by simp)
          have hba : Below w3.heap.size w3 (w3.alloc (.cells #[] 47)) := (Below.refl _ _).alloc (Nat.le_refl _) _
          have H0 := Lib.hid (And.intro hm0 hba); clear hm0 hba
          go_wp2_with (first
            | (have _ := H4.out; at_builtin; go_loud (refine wpList_app2 _ rfl (.tmp 59) (.tmp 60) 43 rfl w3.heap.size 47 i0 _ 6 64 Try.underlying43 HI.out.1 HI.out.2.1 HI.out.2.2.1 HI.out.2.2.2 rfl (by decide) v4 m1 _ rfl H4.out.1 A3 m2 c3 V2 rfl (HX.out.2.1.below H4.out.2 (Nat.le_refl _)) HX.out.2.2 (by unfold maxLen; omega) (by omega) H4.out.2.size ?_; intro v5 w5 h1 h2 _; have H5 := Lib.hid (And.intro h1 (H4.out.2.grown h2 H4.out.2.size fun j hj => (H4.out.1.lt j hj).1)); clear h1 h2))
            | (at_builtin; go_loud (refine wpList_app2 _ rfl (.tmp 57) (.tmp 58) 43 rfl w3.heap.size 47 i0 _ 6 64 Try.underlying43 HI.out.1 HI.out.2.1 HI.out.2.2.1 HI.out.2.2.2 rfl (by decide) _ 0 [] rfl H0.out.1 A2 m1 c2 V1 rfl (HX.out.1.1.below H0.out.2 (Nat.le_refl _)) HX.out.1.2 (by unfold maxLen; omega) (by omega) H0.out.2.size ?_; intro v4 w4 h1 h2 _; rw [Nat.zero_add, List.nil_append] at h1; have H4 := Lib.hid (And.intro h1 (H0.out.2.grown h2 H0.out.2.size fun j hj => (H0.out.1.lt j hj).1)); clear h1 h2)))
          obtain ⟨A5, c5, rfl, hc5, hat5⟩ := fw.join (v := v5) HEL.out.1 HEL.out.2 H5.out.2 (by rw [← HM.out.1, ← HM.out.2]; exact H5.out.1)
          obtain ⟨m, hm⟩ : ∃ m, m = (X1 ++ X2).length := ⟨_, rfl⟩
          have hm2 : m ≤ 1000000 := by rw [hm, List.length_append, ← HM.out.1, ← HM.out.2]; omega
          have HB5 := Lib.hid (HB3.out.trans (H5.out.2.mono HB3.out.size)); clear H4 H5 H0 HB3 HX HEL
          have hj := HJ.out A5 m c5 w5 hm.symm hat5
          rw [← hm]
          have HJ5 := Lib.hid hj; clear hj HJ
          have HM5 := Lib.hid (And.intro hm hat5); clear hm hat5
          go_wp2_with fail
          refine HJ5.out.mono ?_
          rintro e w6 ⟨v6, l6, rfl, hown6, hby6, his6, hb6⟩
          obtain ⟨N6, hN6⟩ : ∃ N, N = l6.length := ⟨_, rfl⟩
          rw [← hN6] at hown6
          obtain ⟨A6, c6, rfl, -, hat6⟩ := own_at hown6
          have hN64 : N6 ≤ 4000 := by have := his6.len; have := HFL.out.2; omega
          have hpat6 : PAt w6 A6 l6 := by unfold PAt; rw [← hN6]; exact hat6
          have H6 := Lib.hid (And.intro hpat6 (And.intro hby6 (And.intro his6 hN6))); clear hpat6 hby6 his6 hN6 hown6 hat6
          have HM6 := Lib.hid (And.intro HM5.out.1 (HM5.out.2.below hb6 (Nat.le_refl _))); clear HM5 HJ5
          have HB6 := Lib.hid (HB5.out.trans (hb6.mono HB5.out.size)); clear hb6 HB5
          go_wp2_with fail
          refine (HBAT.out w6 HB6.out).mono ?_
          rintro e w7 ⟨v7, l7, rfl, hown7, hby7, his7, hb7⟩
          obtain ⟨N7, hN7⟩ : ∃ N, N = l7.length := ⟨_, rfl⟩
          rw [← hN7] at hown7
          obtain ⟨A7, c7, rfl, -, hat7⟩ := own_at hown7
          have hN74 : N7 ≤ 4000 := by have := his7.len; have := HFL.out.2; omega
          have hpat7 : PAt w7 A7 l7 := by unfold PAt; rw [← hN7]; exact hat7
          have hsame := fs.same_any A6 N6 c6 l6 A7 N7 c7 l7 w7 H6.out.2.2.2.symm hN7.symm (by omega) (by omega) (H6.out.1.below hb7 (Nat.le_refl _)) (fun x hx => (H6.out.2.1 x hx).wide.below hb7 (Nat.le_refl _)) hpat7 (fun x hx => (hby7 x hx).wide)
          rw [H6.out.2.2.1.eqs his7] at hsame
          have HS7 := Lib.hid hsame; clear hsame hpat7 hby7 his7 hN7 hown7 hat7 H6
          have HM7 := Lib.hid (And.intro HM6.out.1 (HM6.out.2.below hb7 (Nat.le_refl _))); clear HM6
          have HB7 := Lib.hid (HB6.out.trans (hb7.mono HB6.out.size)); clear hb7 HB6
          go_wp2_with fail
          refine HS7.out.mono ?_
          rintro e w8 ⟨rfl, hb8⟩
          have HM8 := Lib.hid (And.intro HM7.out.1 (HM7.out.2.below hb8 (Nat.le_refl _))); clear HM7 HS7
          have HB8 := Lib.hid (HB7.out.trans (hb8.mono HB7.out.size)); clear hb8 HB7
          go_wp2_with fail
          refine (HRECJ.out A5 m c5 w8 HM8.out.1.symm hm2 HM8.out.2).mono ?_
          rintro e w9 ⟨⟨A9, c9, rfl, -⟩, hb9⟩
          have HB9 := Lib.hid (HB8.out.trans (hb9.mono HB8.out.size)); clear hb9 HB8 HM8
          go_wp2_with fail
          refine (HREC.out w9 HB9.out).mono ?_
          rintro e w10 ⟨⟨A10, c10, rfl, -⟩, hb10⟩
          have HB10 := Lib.hid (HB9.out.trans (hb10.mono HB9.out.size)); clear hb10 HB9
          go_wp2_with fail
          refine (HAW.out w10).mono ?_
          rintro e w11 ⟨rfl, hb11⟩
          have HB11 := Lib.hid (show Below w.heap.size w w11 from HB10.out.trans (hb11.mono HB10.out.size)); clear hb11
          go_wp2_with fail
          go_ret
          exact ⟨rfl, HB11.out⟩
        all_goals
          go_wp2_with fail
          refine (HAW.out w3).mono ?_
          rintro e w4 ⟨rfl, hb4⟩
          have HB4 := Lib.hid (show Below w.heap.size w w4 from HB3.out.trans (hb4.mono HB3.out.size)); clear hb4
          go_wp2_with fail
          go_ret
          exact ⟨rfl, HB4.out⟩
end Go.Proofs.Ytbbekgliaedigaa

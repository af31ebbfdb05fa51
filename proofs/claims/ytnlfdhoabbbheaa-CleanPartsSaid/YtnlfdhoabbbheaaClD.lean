/- clean.count, clean.Batch. -/
import Derived.Test.YtnlfdhoabbbheaaClB
namespace Go.Proofs.Ytnlfdhoabbbheaa
open Go.RowKit Go.Maps
set_option maxRecDepth 100000

theorem res_cell2' {P : Program} {fn : Func} {p u : Tmp} {ty T : TypeId} (h : fn.results = #[.cell p ty, .tmp u]) (tmps : Array Value) (w : World) (g : Nat) (cs : Array Value) (d : TypeDesc) (hp : tmps.getD p undef = .pointer (some ⟨g, 0, none⟩)) (hg : Blk w g T cs)
    (hu : P.underlying ty = some d) (hd : (match d with | .struct _ | .array _ _ => true | _ => false) = true) (hi : (P.info? ty).map (·.size) = some cs.size) :
    (results fn tmps).run P w = .ok (.tuple #[.agg cs, tmps.getD u undef]) w := by
  have hp' : tmps[p]?.getD undef = .pointer (some ⟨g, 0, none⟩) := by simpa using hp
  simp [results, h, hp', asAddr, run_loadVar_row w g T ty cs (0, 0) d hg hu hd hi]

set_option maxHeartbeats 2000000 in
theorem cl.count_any (A : Option Addr) (n c : Nat) (bs : List Bat) (w : World) (hat : BatsAt w A bs) (hn : bs.length = n) (hn1 : n ≤ 1000000) (hN : (rc.flat bs).length ≤ 1000000) :
    Calls Try.prog 31 #[.slice A n c] w fun e w' => e = .returned (.int .i64 ((rc.flat bs).length : Int)) ∧ Below w.heap.size w w' := by
  have HAT := Lib.hid hat; clear hat
  have HN := Lib.hid hn; clear hn
  have HNN := Lib.hid hN; clear hN
  go_enter Try.func31, Try.ntmps31
  go_wp2_with fail
  go_loopw [3, 8] (fun s3 s8 wx => ∃ (k M : Nat), M = (rc.flat (bs.take k)).length ∧ s3 = .int .i64 (M : Int) ∧ s8 = .int .i64 (k : Int) ∧ k ≤ n ∧ Below w.heap.size w wx) (fun _ s8 _ => n - (intOf s8).toNat)
  case atStart => exact ⟨0, 0, rfl, rfl, rfl, by omega, Below.refl _ _⟩
  case round =>
    obtain ⟨k, M, hM, rfl, rfl, hk, hbw⟩ := hrel
    have HBW := Lib.hid hbw; clear hbw
    by_cases hlt : k < n
    · have hlt' : (k : Int) < n := by omega
      obtain ⟨x, hx⟩ : ∃ x, bs[k]? = some x := ⟨_, List.getElem?_eq_getElem (by rw [HN.out]; exact hlt)⟩
      obtain ⟨p, po, v2, hA2, hp, d0, d1, d2, d3, d4, d5, hrv, -⟩ := HAT.out.at' hx
      subst hA2
      obtain ⟨A4, c4, V4, rfl, -⟩ := hrv
      have hfl := rc.flat_take hx
      have hle := rc.flat_le (bs := bs) (k + 1)
      have hNN := HNN.out
      obtain ⟨M2, hM2⟩ : ∃ M2, M2 = (rc.flat (bs.take (k + 1))).length := ⟨_, rfl⟩
      have hsum : (M : Int) + (x.recs.length : Int) = (M2 : Int) := by rw [hM2, hfl, List.length_append, hM]; omega
      rw [← hM2] at hle
      have HM2 := Lib.hid hM2; clear hM2 hM hfl
      have hpw := Nat.lt_of_lt_of_le hp HBW.out.size
      have e0 := (HBW.out.cell (p := ⟨p, po + k * 6, none⟩) hp).trans d0
      have e1 := (HBW.out.cell (p := ⟨p, po + k * 6 + 1, none⟩) hp).trans d1
      have e2 := (HBW.out.cell (p := ⟨p, po + k * 6 + 2, none⟩) hp).trans d2
      have e3 := (HBW.out.cell (p := ⟨p, po + k * 6 + 3, none⟩) hp).trans d3
      have e4 := (HBW.out.cell (p := ⟨p, po + k * 6 + 4, none⟩) hp).trans d4
      have e5 := (HBW.out.cell (p := ⟨p, po + k * 6 + 5, none⟩) hp).trans d5
      clear d0 d1 d2 d3 d4 d5 hx
      generalize x.recs.length = m at *
      go_wp2_with fail
      go_roundw
      case rel => exact ⟨k + 1, M2, HM2.out, by first | rfl | go_num | (refine num_eq ?_; omega), by go_num, by omega, HBW.out.alloc HBW.out.size _⟩
      case measure => simp [intOf]; omega
    · obtain rfl : k = n := by omega
      rw [List.take_of_length_le (by rw [HN.out]; exact Nat.le_refl _)] at hM
      have HMM := Lib.hid hM; clear hM
      go_wp2_with fail
      go_ret
      exact ⟨show Ending.returned (Value.int .i64 (M : Int)) = _ from by rw [HMM.out], HBW.out⟩

theorem cl.SegPost.fr {l : List Bat} {w : World} {e : Ending} {w' : World} (h : cl.SegPost l w e w') : fr.Post l w e w' := by
  obtain ⟨A, c, h1, h2, h3, h4, -, h6⟩ := h
  exact ⟨A, c, h1, h2, h3, h4.now, h6⟩
/-- What Batch answers. -/
def cl.BatPost (F : Rec → Bool) (x : Bat) (w : World) (e : Ending) (w' : World) : Prop :=
  (((ps.cut F x).recs.length = 0 ∧ e = .returned (.tuple #[.agg #[.int .i64 0, .int .i64 0, .int .i64 0, .int .i64 0, .int .i64 0, .slice none 0 0], .bool false])) ∨
    (0 < (ps.cut F x).recs.length ∧ ∃ A c, e = .returned (.tuple #[.agg #[.int .i64 x.base, .int .i64 x.last, .int .i64 x.prod, .int .i64 x.epoch, .int .i64 x.seq, .slice A (ps.cut F x).recs.length c], .bool true]) ∧ RecsV w' (.slice A (ps.cut F x).recs.length c) (ps.cut F x).recs)) ∧ Below w.heap.size w w'
set_option maxHeartbeats 4000000 in
theorem cl.batch_any (x : Bat) (A4 : Option Addr) (m c4 : Nat) (p b : Nat) (most : Int) (N0 : Nat) (g0 : ByteArray → Option Int) (upto now grace : Int) (w : World) (hx : BatR w [.int .i64 x.base, .int .i64 x.last, .int .i64 x.prod, .int .i64 x.epoch, .int .i64 x.seq, .slice A4 m c4] x) (hsm : fo.Small [x]) (htm : ∀ r ∈ x.recs, 0 ≤ r.time) (hkm : KM w p b most N0 g0)
    (hnow : 0 ≤ now ∧ now ≤ 9223372036854775807) (hgr : 0 ≤ grace ∧ grace ≤ 9223372036854775807) :
    Calls Try.prog 18 #[.agg #[.int .i64 x.base, .int .i64 x.last, .int .i64 x.prod, .int .i64 x.epoch, .int .i64 x.seq, .slice A4 m c4], .pointer (some ⟨p, 0, none⟩), .int .i64 upto, .int .i64 now, .int .i64 grace] w (cl.BatPost (cl.stays g0 upto now grace) x w) := by
  obtain ⟨g, hg⟩ : ∃ g, g = w.heap.size := ⟨_, rfl⟩
  obtain ⟨w1, hw1⟩ : ∃ w1, w1 = (w.alloc (.cells #[.int .i64 x.base, .int .i64 x.last, .int .i64 x.prod, .int .i64 x.epoch, .int .i64 x.seq, .slice A4 m c4] 46)).alloc (.cells #[.int .i64 0, .int .i64 0, .int .i64 0, .int .i64 0, .int .i64 0, .slice none 0 0] 46) := ⟨_, rfl⟩
  obtain ⟨w2, hw2⟩ : ∃ w2, w2 = w1.alloc (.cells #[.int .i64 x.base, .int .i64 x.last, .int .i64 x.prod, .int .i64 x.epoch, .int .i64 x.seq, .slice A4 m c4] 46) := ⟨_, rfl⟩
  have hb1 : Below w.heap.size w w1 := by rw [hw1]; exact ((Below.refl _ _).alloc (Nat.le_refl _) _).alloc (by simp) _
  have hs1 : w1.heap.size = g + 2 := by rw [hw1, hg]; simp
  have hb12 : Below w1.heap.size w1 w2 := by rw [hw2]; exact (Below.refl _ _).alloc (Nat.le_refl _) _
  have hb2 : Below w.heap.size w w2 := hb1.trans (hb12.mono hb1.size)
  have hz1 : Blk w1 (g + 1) 46 #[.int .i64 0, .int .i64 0, .int .i64 0, .int .i64 0, .int .i64 0, .slice none 0 0] := by
    have h := Blk.new (w.alloc (.cells #[.int .i64 x.base, .int .i64 x.last, .int .i64 x.prod, .int .i64 x.epoch, .int .i64 x.seq, .slice A4 m c4] 46)) 46 #[.int .i64 0, .int .i64 0, .int .i64 0, .int .i64 0, .int .i64 0, .slice none 0 0]
    rw [World.size_alloc, ← hg, ← hw1] at h
    exact h
  have hk1 : Blk w1 g 46 #[.int .i64 x.base, .int .i64 x.last, .int .i64 x.prod, .int .i64 x.epoch, .int .i64 x.seq, .slice A4 m c4] := by rw [hw1, hg]; exact (Below.heap_alloc _ _ _ (by simp)).trans (Blk.new w _ _)
  have hk2 : Blk w2 (g + 2) 46 #[.int .i64 x.base, .int .i64 x.last, .int .i64 x.prod, .int .i64 x.epoch, .int .i64 x.seq, .slice A4 m c4] := by rw [hw2, ← hs1]; exact Blk.new _ _ _
  have hz2 : Blk w2 (g + 1) 46 #[.int .i64 0, .int .i64 0, .int .i64 0, .int .i64 0, .int .i64 0, .slice none 0 0] := (hb12.block (g + 1) hz1.lt).trans hz1
  have hbat : BatsAt w2 (some ⟨g + 2, 0, none⟩) [x] := by
    refine ⟨fun j => [.int .i64 x.base, .int .i64 x.last, .int .i64 x.prod, .int .i64 x.epoch, .int .i64 x.seq, .slice A4 m c4].getD j undef, fun _ => ⟨g + 2, 0, rfl, hk2.lt, fun j hj => ?_⟩, fun i y hi => ?_⟩
    · rw [Nat.zero_add]
      match j, hj with
      | 0, _ => exact hk2.cell 0 rfl
      | 1, _ => exact hk2.cell 1 rfl
      | 2, _ => exact hk2.cell 2 rfl
      | 3, _ => exact hk2.cell 3 rfl
      | 4, _ => exact hk2.cell 4 rfl
      | 5, _ => exact hk2.cell 5 rfl
    · match i, hi with
      | 0, hi =>
        obtain rfl : x = y := by simpa using hi
        exact hx.below hb2 (Nat.le_refl _)
      | i + 1, hi => simp at hi
  have hseg := fun c => cl.segment_any (some ⟨g + 2, 0, none⟩) 1 c [x] p b most N0 g0 upto now grace w2 hbat rfl hsm (fun y hy r hr => by rw [List.mem_singleton.1 hy] at hr; exact htm r hr) (hkm.keep hb2) hnow hgr
  generalize cl.stays g0 upto now grace = F at *
  have hall : ps.all F [x] = if 0 < (ps.cut F x).recs.length then [ps.cut F x] else [] := by
    have h := ps.take_succ (F := F) (bs := [x]) (k := 0) (x := x) rfl
    rw [List.take_of_length_le (by simp), List.take_zero] at h
    exact h
  unfold cl.SegPost at hseg
  rw [hall] at hseg
  unfold cl.BatPost
  have HSEG := Lib.hid hseg; clear hseg hall hbat hx hsm htm hkm hnow hgr hk2
  have H := Lib.hid (And.intro hb2 (And.intro hz2 (And.intro hs1 hb1))); clear hb12 hz2 hb1 hb2
  have l0 := hk1.cell 0 rfl
  have l1 := hk1.cell 1 rfl
  have l2 := hk1.cell 2 rfl
  have l3 := hk1.cell 3 rfl
  have l4 := hk1.cell 4 rfl
  have l5 := hk1.cell 5 rfl
  have hgl := hk1.lt
  clear hk1 hz1
  go_enter Try.func18, Try.ntmps18
  go_upto_region 1 with fail
  rw [← hw1, ← hg]
  have HW := Lib.hid (And.intro hg hw2); clear hg hw1 hw2
  go_wp2_with fail
  rw [← HW.out.2]
  refine (HSEG.out 1).mono ?_
  clear l0 l1 l2 l3 l4 l5
  by_cases hpos : 0 < (ps.cut F x).recs.length
  · rw [if_pos hpos]
    rintro e w3 ⟨A3, c3, rfl, hc3, hcm, hdep, hblk, hb3⟩
    have hat := hdep.now
    obtain ⟨q, qo, v, hA, hq, d0, d1, d2, d3, d4, d5, hrv, -⟩ := hat.at' (k := 0) (x := ps.cut F x) rfl
    obtain ⟨A4', c4', V4, rfl, hr⟩ := id hrv
    obtain ⟨n4, hn4⟩ : ∃ n4, n4 = (ps.cut F x).recs.length := ⟨_, rfl⟩
    rw [← hn4] at d5 hrv hpos
    rw [show qo + 0 * 6 = qo from by omega] at d0 d1 d2 d3 d4 d5
    have e0 : w3.cell? ⟨q, qo, none⟩ = some (.int .i64 x.base) := d0
    have e1 : w3.cell? ⟨q, qo + 1, none⟩ = some (.int .i64 x.last) := d1
    have e2 : w3.cell? ⟨q, qo + 2, none⟩ = some (.int .i64 x.prod) := d2
    have e3 : w3.cell? ⟨q, qo + 3, none⟩ = some (.int .i64 x.epoch) := d3
    have e4 : w3.cell? ⟨q, qo + 4, none⟩ = some (.int .i64 x.seq) := d4
    have hb03 := H.out.1.trans (hb3.mono H.out.1.size)
    have hz3 : Blk w3 (g + 1) 46 #[.int .i64 0, .int .i64 0, .int .i64 0, .int .i64 0, .int .i64 0, .slice none 0 0] := (hb3.block (g + 1) H.out.2.1.lt).trans H.out.2.1
    have hA' : A3 = some ⟨q, qo, none⟩ := hA
    have hqb : w2.heap.size ≤ q := hblk q (by rw [hA']; rfl)
    have hgq : g + 1 < w2.heap.size := H.out.2.1.lt
    have hset : ∀ cs, RecsV (w3.setRow (g + 1) cs) (.slice A4' n4 c4') (ps.cut F x).recs := fun cs => by
      obtain ⟨S, hS1, hS2⟩ := hdep
      have h := hS2 (w3.setRow (g + 1) cs) (fun k hk => setRow_other w3 (g + 1) k cs (by have := (hS1 k hk).1; omega)) (by simp)
      obtain ⟨q', qo', v', hA2, -, -, -, -, -, -, d5', hrv', -⟩ := h.at' (k := 0) (x := ps.cut F x) rfl
      rw [hA'] at hA2
      obtain ⟨rfl, rfl⟩ : q = q' ∧ qo = qo' := by simpa using hA2
      have e := World.cell?_of_block (a := ⟨q, qo + 5, none⟩) (setRow_other w3 (g + 1) q cs (by omega))
      rw [show qo + 0 * 6 + 5 = qo + 5 from by omega, e, d5] at d5'
      cases d5'
      exact hrv'
    have H3 := Lib.hid (And.intro hb03 (And.intro hz3 (And.intro hset (And.intro hpos hn4)))); clear hb03 hz3 hset hrv hpos hn4 hb3 hat hr d0 d1 d2 d3 d4 hA hdep hblk hqb hgq
    subst hA'
    go_wp2_with (refine wpList_store_row rfl 46 (.tmp 10) (.tmp 26) rfl (g + 1) #[.int .i64 x.base, .int .i64 x.last, .int .i64 x.prod, .int .i64 x.epoch, .int .i64 x.seq, .slice A4' n4 c4'] rfl rfl 46 _ H3.out.2.1 fo.infoB6 rfl (by simp [Value.oneCell']) ?_)
    have hc6 := fo.chg_row w3 (g + 1) #[.int .i64 x.base, .int .i64 x.last, .int .i64 x.prod, .int .i64 x.epoch, .int .i64 x.seq, .slice A4' n4 c4']
    have hz6 := fo.blk_row H3.out.2.1 #[.int .i64 x.base, .int .i64 x.last, .int .i64 x.prod, .int .i64 x.epoch, .int .i64 x.seq, .slice A4' n4 c4']
    have hrv6 := H3.out.2.2.1 #[.int .i64 x.base, .int .i64 x.last, .int .i64 x.prod, .int .i64 x.epoch, .int .i64 x.seq, .slice A4' n4 c4']
    generalize w3.setRow (g + 1) #[.int .i64 x.base, .int .i64 x.last, .int .i64 x.prod, .int .i64 x.epoch, .int .i64 x.seq, .slice A4' n4 c4'] = w6 at *
    go_wp2_with fail
    refine bodyPost_ret (res_cell2' rfl _ _ _ _ _ rfl hz6 Try.underlying46 rfl fo.infoB6) rfl ?_
    have hn4 := H3.out.2.2.2.2
    refine ⟨.inr ⟨by rw [← hn4]; exact H3.out.2.2.2.1, A4', c4', by rw [← hn4]; rfl, by rw [← hn4]; exact hrv6⟩, ?_⟩
    exact H3.out.1.trans (hc6.below H3.out.1.size fun k hk => by have hk : k = g + 1 := hk; have := HW.out.1; omega)
  · rw [if_neg hpos]
    rintro e w3 ⟨A3, c3, rfl, -, -, -, -, hb3⟩
    have hb03 := H.out.1.trans (hb3.mono H.out.1.size)
    have hz3 : Blk w3 (g + 1) 46 #[.int .i64 0, .int .i64 0, .int .i64 0, .int .i64 0, .int .i64 0, .slice none 0 0] := (hb3.block (g + 1) H.out.2.1.lt).trans H.out.2.1
    have H3 := Lib.hid (And.intro hb03 hz3); clear hb03 hz3 hb3
    go_wp2_with (refine wpList_store_row rfl 46 (.tmp 10) (.tmp 23) rfl (g + 1) #[.int .i64 0, .int .i64 0, .int .i64 0, .int .i64 0, .int .i64 0, .slice none 0 0] rfl rfl 46 _ H3.out.2 fo.infoB6 rfl (by simp [Value.oneCell']) ?_)
    have hc6 := fo.chg_row w3 (g + 1) #[.int .i64 0, .int .i64 0, .int .i64 0, .int .i64 0, .int .i64 0, .slice none 0 0]
    have hz6 := fo.blk_row H3.out.2 #[.int .i64 0, .int .i64 0, .int .i64 0, .int .i64 0, .int .i64 0, .slice none 0 0]
    generalize w3.setRow (g + 1) #[.int .i64 0, .int .i64 0, .int .i64 0, .int .i64 0, .int .i64 0, .slice none 0 0] = w6 at *
    go_wp2_with fail
    refine bodyPost_ret (res_cell2' rfl _ _ _ _ _ rfl hz6 Try.underlying46 rfl fo.infoB6) rfl ?_
    refine ⟨.inl ⟨by omega, rfl⟩, ?_⟩
    exact H3.out.1.trans (hc6.below H3.out.1.size fun k hk => by have hk : k = g + 1 := hk; have := HW.out.1; omega)
end Go.Proofs.Ytnlfdhoabbbheaa

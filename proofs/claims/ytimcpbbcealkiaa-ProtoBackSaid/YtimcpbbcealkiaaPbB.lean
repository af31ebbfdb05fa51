/- proto: the law ProtoBack (chapter 20). -/
import Derived.BigQuiet
import Derived.Test.YtimcpbbcealkiaaPbX
import Derived.Test.YtimcpbbcealkiaaBwB
import Derived.Test.YtimcpbbcealkiaaPqJ
import Derived.Test.YtimcpbbcealkiaaPqR
import Derived.Test.YtimcpbbcealkiaaPaX
import Derived.Test.YtimcpbbcealkiaaPqT
import Derived.Test.YtimcpbbcealkiaaPqU
import Derived.Test.YtimcpbbcealkiaaPqV
import Derived.Test.YtimcpbbcealkiaaPqW
namespace Go.Proofs.Ytimcpbbcealkiaa
open Go.RowKit
set_option maxRecDepth 20000
theorem pb.accEmpty (w3 w : World) (hb : Below w3.heap.size w3 w) : Acc w3 (.slice (some ⟨w.heap.size, 0, none⟩) 0 0) [] (w.alloc (.cells #[] 5)) :=
  ⟨World.ownsRow_made w #[] 0 hb.size (by unfold maxLen; omega) (by simp), hb.alloc hb.size _⟩
theorem pb.same_self (r : PReq) : decide (r.Same r) = true := decide_eq_true ⟨rfl, rfl, rfl, rfl, rfl, rfl, rfl, rfl, rfl, rfl, rfl, rfl, rfl⟩
theorem pb.alike_self (r : PAns) : decide (r.Same r) = true := decide_eq_true ⟨rfl, rfl, rfl, rfl, rfl, rfl, rfl, rfl, rfl, rfl⟩
theorem pb.new_row (w : World) (T : TypeId) (z cs : Array Value) : Blk ((w.alloc (.cells z T)).setRow w.heap.size cs) w.heap.size T cs ∧ Chg w ((w.alloc (.cells z T)).setRow w.heap.size cs) (fun _ => False) :=
  ⟨pq.blk_row (Blk.new w T z) _, (Chg.alloc w _ (fun _ => False)).trans (pq.chg_row _ _ _) fun k hk q => absurd hk (by rw [show k = w.heap.size from q]; exact Nat.lt_irrefl _)⟩
/-- The step's own box and row stand: nothing that was there was turned. -/
theorem pb.chg {w w' : World} (h : Below w.heap.size w w') : Chg w w' (fun _ => False) := chg_of h
set_option maxHeartbeats 8000000 in
theorem law20.back (r : PReq) (An : Option Addr) (cn : Nat) (Ad : Option Addr) (cd : Nat) (s : PAns) (Bn : Option Addr) (kn : Nat) (Bm : Option Addr) (km : Nat) (Bd : Option Addr) (kd : Nat) (cut : Int) (xn : Nat) (w : World) (hr : ReqV w An cn Ad cd r) (hs : AnsV w Bn kn Bm km Bd kd s) (hcut : -9223372036854775808 ≤ cut ∧ cut ≤ 9223372036854775807) (hx : xn < 256) :
    Calls Try.prog 4 #[.agg (r.cells An cn Ad cd), .agg (s.cells Bn kn Bm km Bd kd), .int .i64 cut, .int .u8 (xn : Int)] w fun e w' => e = .returned (.bool true) ∧ Below w.heap.size w w' := by
  have hgo : ∀ wx, Calls Try.prog 9 #[] wx fun e w' => e = .returned (.bool true) ∧ Below wx.heap.size wx w' := law20.awake
  have HGO := Lib.hid hgo; clear hgo
  have ka := fun wx (h : Below w.heap.size w wx) => alike.req_any r An cn Ad cd wx (hr.below h (Nat.le_refl _))
  have kb := fun wx (h : Below w.heap.size w wx) => law20.answer_any s Bn kn Bm km Bd kd wx (hs.below h (Nat.le_refl _))
  have ke := fun wx (h : Below w.heap.size w wx) => pq.encode_any r An cn Ad cd wx (hr.below h (Nat.le_refl _))
  have kf := fun wx (h : Below w.heap.size w wx) => pa.answer_any s Bn kn Bm km Bd kd wx (hs.below h (Nat.le_refl _))
  have s1 := fun wx (h : Below w.heap.size w wx) (An' : Option Addr) cn' (Ad' : Option Addr) cd' (hv : ReqV wx An' cn' Ad' cd' r) => pq.same_any r r An cn Ad cd An' cn' Ad' cd' wx (hr.below h (Nat.le_refl _)) hv
  have s2 := fun wx (h : Below w.heap.size w wx) (An' : Option Addr) cn' (Ad' : Option Addr) cd' (hv : ReqV wx An' cn' Ad' cd' r) => pq.refsame_any r r An cn Ad cd An' cn' Ad' cd' wx (hr.below h (Nat.le_refl _)) hv
  have s3 := fun wx (h : Below w.heap.size w wx) (An' : Option Addr) cn' (Am' : Option Addr) cm' (Ad' : Option Addr) cd' (hv : AnsV wx An' cn' Am' cm' Ad' cd' s) => pq.alike_any s s Bn kn Bm km Bd kd An' cn' Am' cm' Ad' cd' wx (hs.below h (Nat.le_refl _)) hv
  have s4 := fun wx (h : Below w.heap.size w wx) (An' : Option Addr) cn' (Am' : Option Addr) cm' (Ad' : Option Addr) cd' (hv : AnsV wx An' cn' Am' cm' Ad' cd' s) => pq.refalike_any s s Bn kn Bm km Bd kd An' cn' Am' cm' Ad' cd' wx (hs.below h (Nat.le_refl _)) hv
  simp only [pb.same_self] at s1 s2
  simp only [pb.alike_self] at s3 s4
  have hrd := pb.reqV_lt hr
  have hsd := pb.ansV_lt hs
  have hrf := hr.1
  have hsf := hs.1
  clear hr hs
  have HP := Lib.hid (And.intro hrd (And.intro hsd (And.intro hrf (And.intro hsf hcut)))); clear hrd hsd hrf hsf hcut
  unfold PReq.cells at ka ke s1 s2 ⊢
  unfold PAns.cells at kb kf s3 s4 ⊢
  obtain ⟨b0, hb0⟩ : ∃ b, b = w.heap.size := ⟨_, rfl⟩
  obtain ⟨w2, hw2⟩ : ∃ w2, w2 = (w.alloc (.cells #[.int .i64 r.kind, .int .i64 r.corr, .string r.client, .string r.topic, .int .i64 r.part, .int .i64 r.off, .int .i64 r.time, .int .i64 r.most, .string r.group, .string r.member, .int .i64 r.gen, .slice An r.names.length cn, .slice Ad r.data.length cd] 25)).alloc (.cells #[.int .i64 s.corr, .int .i64 s.code, .int .i64 s.off, .int .i64 s.last, .int .i64 s.gen, .string s.member, .string s.leader, .slice Bn s.names.length kn, .slice Bm s.nums.length km, .slice Bd s.data.length kd] 41) := ⟨_, rfl⟩
  have hbk : Blk w2 b0 25 #[.int .i64 r.kind, .int .i64 r.corr, .string r.client, .string r.topic, .int .i64 r.part, .int .i64 r.off, .int .i64 r.time, .int .i64 r.most, .string r.group, .string r.member, .int .i64 r.gen, .slice An r.names.length cn, .slice Ad r.data.length cd] ∧ Blk w2 (b0 + 1) 41 #[.int .i64 s.corr, .int .i64 s.code, .int .i64 s.off, .int .i64 s.last, .int .i64 s.gen, .string s.member, .string s.leader, .slice Bn s.names.length kn, .slice Bm s.nums.length km, .slice Bd s.data.length kd] ∧ Below w.heap.size w w2 := by
    rw [hw2, hb0]
    have q1 := Blk.new w 25 #[.int .i64 r.kind, .int .i64 r.corr, .string r.client, .string r.topic, .int .i64 r.part, .int .i64 r.off, .int .i64 r.time, .int .i64 r.most, .string r.group, .string r.member, .int .i64 r.gen, .slice An r.names.length cn, .slice Ad r.data.length cd]
    have q2 := Blk.new (w.alloc (.cells #[.int .i64 r.kind, .int .i64 r.corr, .string r.client, .string r.topic, .int .i64 r.part, .int .i64 r.off, .int .i64 r.time, .int .i64 r.most, .string r.group, .string r.member, .int .i64 r.gen, .slice An r.names.length cn, .slice Ad r.data.length cd] 25)) 41 #[.int .i64 s.corr, .int .i64 s.code, .int .i64 s.off, .int .i64 s.last, .int .i64 s.gen, .string s.member, .string s.leader, .slice Bn s.names.length kn, .slice Bm s.nums.length km, .slice Bd s.data.length kd]
    rw [World.size_alloc] at q2
    have g1 := Chg.alloc w (.cells #[.int .i64 r.kind, .int .i64 r.corr, .string r.client, .string r.topic, .int .i64 r.part, .int .i64 r.off, .int .i64 r.time, .int .i64 r.most, .string r.group, .string r.member, .int .i64 r.gen, .slice An r.names.length cn, .slice Ad r.data.length cd] 25) (fun _ => False)
    have g2 := Chg.alloc (w.alloc (.cells #[.int .i64 r.kind, .int .i64 r.corr, .string r.client, .string r.topic, .int .i64 r.part, .int .i64 r.off, .int .i64 r.time, .int .i64 r.most, .string r.group, .string r.member, .int .i64 r.gen, .slice An r.names.length cn, .slice Ad r.data.length cd] 25)) (.cells #[.int .i64 s.corr, .int .i64 s.code, .int .i64 s.off, .int .i64 s.last, .int .i64 s.gen, .string s.member, .string s.leader, .slice Bn s.names.length kn, .slice Bm s.nums.length km, .slice Bd s.data.length kd] 41) (fun _ => False)
    exact ⟨g2.blk q1 fun q => q, q2, (g1.trans g2 fun _ _ q => q).below (Nat.le_refl _) fun _ q => q.elim⟩
  have HB := Lib.hid hbk; clear hbk
  have hup : ∀ wx, Chg w2 wx (fun _ => False) → Below w.heap.size w wx := fun wx h => HB.out.2.2.trans (h.below HB.out.2.2.size fun _ q => q.elim)
  have HUP := Lib.hid hup; clear hup
  have H := Lib.hid (And.intro ka (And.intro kb (And.intro ke (And.intro kf (And.intro s1 (And.intro s2 (And.intro s3 s4))))))); clear ka kb ke kf s1 s2 s3 s4
  go_enter Try.func4, Try.ntmps4
  go_upto_region 1 with fail
  rw [← hw2, ← hb0]
  have HSZ := Lib.hid (show b0 = w.heap.size ∧ w.heap.size ≤ w2.heap.size from ⟨hb0, HB.out.2.2.size⟩)
  clear hw2 hb0
  have yu0 : w2.cell? ⟨b0, 0, none⟩ = some (.int .i64 r.kind) := (HB.out.1).cell 0 rfl
  have yu1 : w2.cell? ⟨b0, 1, none⟩ = some (.int .i64 r.corr) := (HB.out.1).cell 1 rfl
  have yu2 : w2.cell? ⟨b0, 2, none⟩ = some (.string r.client) := (HB.out.1).cell 2 rfl
  have yu3 : w2.cell? ⟨b0, 3, none⟩ = some (.string r.topic) := (HB.out.1).cell 3 rfl
  have yu4 : w2.cell? ⟨b0, 4, none⟩ = some (.int .i64 r.part) := (HB.out.1).cell 4 rfl
  have yu5 : w2.cell? ⟨b0, 5, none⟩ = some (.int .i64 r.off) := (HB.out.1).cell 5 rfl
  have yu6 : w2.cell? ⟨b0, 6, none⟩ = some (.int .i64 r.time) := (HB.out.1).cell 6 rfl
  have yu7 : w2.cell? ⟨b0, 7, none⟩ = some (.int .i64 r.most) := (HB.out.1).cell 7 rfl
  have yu8 : w2.cell? ⟨b0, 8, none⟩ = some (.string r.group) := (HB.out.1).cell 8 rfl
  have yu9 : w2.cell? ⟨b0, 9, none⟩ = some (.string r.member) := (HB.out.1).cell 9 rfl
  have yu10 : w2.cell? ⟨b0, 10, none⟩ = some (.int .i64 r.gen) := (HB.out.1).cell 10 rfl
  have yu11 : w2.cell? ⟨b0, 11, none⟩ = some (.slice An r.names.length cn) := (HB.out.1).cell 11 rfl
  have yu12 : w2.cell? ⟨b0, 12, none⟩ = some (.slice Ad r.data.length cd) := (HB.out.1).cell 12 rfl
  have yul : b0 < w2.heap.size := (HB.out.1).lt
  go_wp2_with fail
  refine (H.out.1 w2 HB.out.2.2).mono ?_
  rintro en w3 ⟨⟨ta, rfl, hta, -⟩, h9⟩
  have C3 := Lib.hid (pb.chg h9); clear h9
  clear yu0 yu1 yu2 yu3 yu4 yu5 yu6 yu7 yu8 yu9 yu10 yu11 yu12 yul
  by_cases hbig : 5000 < ta
  · have d0 : decide (5000 < ta) = true := decide_eq_true hbig
    go_wp2_with fail
    refine (HGO.out w3).mono ?_
    rintro en w4 ⟨rfl, h9⟩
    have C4 := Lib.hid (HUP.out _ (C3.out.trans (pb.chg h9) fun _ _ q => q)); clear h9
    go_wp2_with fail
    go_ret
    exact ⟨rfl, C4.out⟩
  have d0 : decide (5000 < ta) = false := decide_eq_false hbig
  clear hbig
  have yu0 : w3.cell? ⟨(b0 + 1), 0, none⟩ = some (.int .i64 s.corr) := (C3.out.blk HB.out.2.1 fun q => q).cell 0 rfl
  have yu1 : w3.cell? ⟨(b0 + 1), 1, none⟩ = some (.int .i64 s.code) := (C3.out.blk HB.out.2.1 fun q => q).cell 1 rfl
  have yu2 : w3.cell? ⟨(b0 + 1), 2, none⟩ = some (.int .i64 s.off) := (C3.out.blk HB.out.2.1 fun q => q).cell 2 rfl
  have yu3 : w3.cell? ⟨(b0 + 1), 3, none⟩ = some (.int .i64 s.last) := (C3.out.blk HB.out.2.1 fun q => q).cell 3 rfl
  have yu4 : w3.cell? ⟨(b0 + 1), 4, none⟩ = some (.int .i64 s.gen) := (C3.out.blk HB.out.2.1 fun q => q).cell 4 rfl
  have yu5 : w3.cell? ⟨(b0 + 1), 5, none⟩ = some (.string s.member) := (C3.out.blk HB.out.2.1 fun q => q).cell 5 rfl
  have yu6 : w3.cell? ⟨(b0 + 1), 6, none⟩ = some (.string s.leader) := (C3.out.blk HB.out.2.1 fun q => q).cell 6 rfl
  have yu7 : w3.cell? ⟨(b0 + 1), 7, none⟩ = some (.slice Bn s.names.length kn) := (C3.out.blk HB.out.2.1 fun q => q).cell 7 rfl
  have yu8 : w3.cell? ⟨(b0 + 1), 8, none⟩ = some (.slice Bm s.nums.length km) := (C3.out.blk HB.out.2.1 fun q => q).cell 8 rfl
  have yu9 : w3.cell? ⟨(b0 + 1), 9, none⟩ = some (.slice Bd s.data.length kd) := (C3.out.blk HB.out.2.1 fun q => q).cell 9 rfl
  have yul : (b0 + 1) < w3.heap.size := (C3.out.blk HB.out.2.1 fun q => q).lt
  go_wp2_with fail
  refine (H.out.2.1 w3 (HUP.out _ C3.out)).mono ?_
  rintro en w4 ⟨⟨tb, rfl, htb, -⟩, h9⟩
  have C4 := Lib.hid (C3.out.trans (pb.chg h9) fun _ _ q => q); clear h9 C3
  clear yu0 yu1 yu2 yu3 yu4 yu5 yu6 yu7 yu8 yu9 yul
  by_cases hbig : 5000 < tb
  · have d1 : decide (5000 < tb) = true := decide_eq_true hbig
    go_wp2_with fail
    refine (HGO.out w4).mono ?_
    rintro en w5 ⟨rfl, h9⟩
    have C5 := Lib.hid (HUP.out _ (C4.out.trans (pb.chg h9) fun _ _ q => q)); clear h9
    go_wp2_with fail
    go_ret
    exact ⟨rfl, C5.out⟩
  have d1 : decide (5000 < tb) = false := decide_eq_false hbig
  clear hbig
  have yu0 : w4.cell? ⟨b0, 0, none⟩ = some (.int .i64 r.kind) := (C4.out.blk HB.out.1 fun q => q).cell 0 rfl
  have yu1 : w4.cell? ⟨b0, 1, none⟩ = some (.int .i64 r.corr) := (C4.out.blk HB.out.1 fun q => q).cell 1 rfl
  have yu2 : w4.cell? ⟨b0, 2, none⟩ = some (.string r.client) := (C4.out.blk HB.out.1 fun q => q).cell 2 rfl
  have yu3 : w4.cell? ⟨b0, 3, none⟩ = some (.string r.topic) := (C4.out.blk HB.out.1 fun q => q).cell 3 rfl
  have yu4 : w4.cell? ⟨b0, 4, none⟩ = some (.int .i64 r.part) := (C4.out.blk HB.out.1 fun q => q).cell 4 rfl
  have yu5 : w4.cell? ⟨b0, 5, none⟩ = some (.int .i64 r.off) := (C4.out.blk HB.out.1 fun q => q).cell 5 rfl
  have yu6 : w4.cell? ⟨b0, 6, none⟩ = some (.int .i64 r.time) := (C4.out.blk HB.out.1 fun q => q).cell 6 rfl
  have yu7 : w4.cell? ⟨b0, 7, none⟩ = some (.int .i64 r.most) := (C4.out.blk HB.out.1 fun q => q).cell 7 rfl
  have yu8 : w4.cell? ⟨b0, 8, none⟩ = some (.string r.group) := (C4.out.blk HB.out.1 fun q => q).cell 8 rfl
  have yu9 : w4.cell? ⟨b0, 9, none⟩ = some (.string r.member) := (C4.out.blk HB.out.1 fun q => q).cell 9 rfl
  have yu10 : w4.cell? ⟨b0, 10, none⟩ = some (.int .i64 r.gen) := (C4.out.blk HB.out.1 fun q => q).cell 10 rfl
  have yu11 : w4.cell? ⟨b0, 11, none⟩ = some (.slice An r.names.length cn) := (C4.out.blk HB.out.1 fun q => q).cell 11 rfl
  have yu12 : w4.cell? ⟨b0, 12, none⟩ = some (.slice Ad r.data.length cd) := (C4.out.blk HB.out.1 fun q => q).cell 12 rfl
  have yul : b0 < w4.heap.size := (C4.out.blk HB.out.1 fun q => q).lt
  go_wp2_with fail
  refine (H.out.2.2.1 w4 (HUP.out _ C4.out)).mono ?_
  clear yu0 yu1 yu2 yu3 yu4 yu5 yu6 yu7 yu8 yu9 yu10 yu11 yu12 yul
  by_cases hc : pq.check r = 0
  case neg =>
    have e0 : (pq.check r == 0) = false := by simp [hc]
    have e1 : (pq.check r != 0) = true := by simp [hc]
    rintro en w5 ⟨⟨v, rfl, -⟩, h9⟩
    have CZ := Lib.hid (C4.out.trans (pb.chg h9) fun _ _ q => q); clear h9 C4
    clear hc
    have yu0 : w5.cell? ⟨(b0 + 1), 0, none⟩ = some (.int .i64 s.corr) := (CZ.out.blk HB.out.2.1 fun q => q).cell 0 rfl
    have yu1 : w5.cell? ⟨(b0 + 1), 1, none⟩ = some (.int .i64 s.code) := (CZ.out.blk HB.out.2.1 fun q => q).cell 1 rfl
    have yu2 : w5.cell? ⟨(b0 + 1), 2, none⟩ = some (.int .i64 s.off) := (CZ.out.blk HB.out.2.1 fun q => q).cell 2 rfl
    have yu3 : w5.cell? ⟨(b0 + 1), 3, none⟩ = some (.int .i64 s.last) := (CZ.out.blk HB.out.2.1 fun q => q).cell 3 rfl
    have yu4 : w5.cell? ⟨(b0 + 1), 4, none⟩ = some (.int .i64 s.gen) := (CZ.out.blk HB.out.2.1 fun q => q).cell 4 rfl
    have yu5 : w5.cell? ⟨(b0 + 1), 5, none⟩ = some (.string s.member) := (CZ.out.blk HB.out.2.1 fun q => q).cell 5 rfl
    have yu6 : w5.cell? ⟨(b0 + 1), 6, none⟩ = some (.string s.leader) := (CZ.out.blk HB.out.2.1 fun q => q).cell 6 rfl
    have yu7 : w5.cell? ⟨(b0 + 1), 7, none⟩ = some (.slice Bn s.names.length kn) := (CZ.out.blk HB.out.2.1 fun q => q).cell 7 rfl
    have yu8 : w5.cell? ⟨(b0 + 1), 8, none⟩ = some (.slice Bm s.nums.length km) := (CZ.out.blk HB.out.2.1 fun q => q).cell 8 rfl
    have yu9 : w5.cell? ⟨(b0 + 1), 9, none⟩ = some (.slice Bd s.data.length kd) := (CZ.out.blk HB.out.2.1 fun q => q).cell 9 rfl
    have yul : (b0 + 1) < w5.heap.size := (CZ.out.blk HB.out.2.1 fun q => q).lt
    go_wp2_with fail
    refine (H.out.2.2.2.1 w5 (HUP.out _ CZ.out)).mono ?_
    clear yu0 yu1 yu2 yu3 yu4 yu5 yu6 yu7 yu8 yu9 yul
    by_cases hca : pa.check s = 0
    case neg =>
      have f0 : (pa.check s == 0) = false := by simp [hca]
      have f1 : (pa.check s != 0) = true := by simp [hca]
      rintro en x5 ⟨⟨v, rfl, -⟩, h9⟩
      have CY := Lib.hid (CZ.out.trans (pb.chg h9) fun _ _ q => q); clear h9
      clear hca
      go_wp2_with fail
      refine (HGO.out x5).mono ?_
      rintro en x6 ⟨rfl, h9⟩
      have C6 := Lib.hid (HUP.out _ (CY.out.trans (pb.chg h9) fun _ _ q => q)); clear h9
      go_wp2_with fail
      go_ret
      exact ⟨rfl, C6.out⟩
    rw [if_pos hca, hca]
    rintro en x5 ⟨⟨v, rfl, h8⟩, h9⟩
    obtain ⟨m, hm⟩ : ∃ m, m = (pa.bytes s).length := ⟨_, rfl⟩
    rw [← hm] at h8
    obtain ⟨Ab, cb, rfl, hbc, hbat⟩ := own_at h8
    obtain ⟨Ab9, cb9, e9, hbc, -, hbat⟩ := own_bytes h8
    obtain ⟨rfl, rfl⟩ : Ab = Ab9 ∧ cb = cb9 := by injection e9 with e1 e2 e3; exact ⟨e1, e3⟩
    have hbm := own_cap h8
    have hbl : ∀ a, Ab = some a → a.block < x5.heap.size := fun a ha => (h8.lt a.block (by rw [ha]; rfl)).2
    have hml : m ≤ 1000000 := by rw [hm]; exact pb.ans_len hca
    have HA := Lib.hid (And.intro hbat (And.intro hbc (And.intro hbm (And.intro hbl (And.intro hm (And.intro hca (pb.ans_byte s HP.out.2.2.2.1 HP.out.2.1.2 hca HP.out.2.1.1))))))); clear hbat hbc hbm hbl hm hca e9 h8
    have CY := Lib.hid (CZ.out.trans (pb.chg h9) fun _ _ q => q); clear h9
    go_upto_region 13 with (first
      | (show Go.wpList _ _ _ (⟨_, .store _ (.tmp 22) (.tmp 118), _, _, _, _⟩ :: _) _ _; refine wpList_store_row rfl 41 (.tmp 22) (.tmp 118) rfl x6.heap.size #[.int .i64 s.corr, .int .i64 s.code, .int .i64 s.off, .int .i64 s.last, .int .i64 s.gen, .string s.member, .string s.leader, .slice Dn s.names.length jn, .slice Dm s.nums.length jm, .slice Dd s.data.length jd] rfl rfl 41 pa.zero (Blk.new x6 41 pa.zero) pa.infoAns rfl (by simp [Value.oneCell']) ?_)
      | (go_at_call 19; refine (pb.read_own s HP.out.2.2.2.1 HP.out.2.1.2 HA.out.2.2.2.2.2.1 HA.out.2.2.2.2.2.2 m HA.out.2.2.2.2.1 Ab cb x5 HA.out.1 HA.out.2.1 HA.out.2.2.1 HA.out.2.2.2.1).mono ?_; rintro en x6 ⟨⟨Dn, jn, Dm, jm, Dd, jd, rfl, h1⟩, h2⟩; unfold PAns.cells; have H6 := Lib.hid (And.intro h1 (pb.chg h2)); clear h1 h2))
    obtain ⟨x7, hx7⟩ : ∃ x7, x7 = (x6.alloc (.cells #[.int .i64 0, .int .i64 0, .int .i64 0, .int .i64 0, .int .i64 0, .string (ByteArray.mk #[]), .string (ByteArray.mk #[]), .slice none 0 0, .slice none 0 0, .slice none 0 0] 41)).setRow x6.heap.size #[.int .i64 s.corr, .int .i64 s.code, .int .i64 s.off, .int .i64 s.last, .int .i64 s.gen, .string s.member, .string s.leader, .slice Dn s.names.length jn, .slice Dm s.nums.length jm, .slice Dd s.data.length jd] := ⟨_, rfl⟩
    obtain ⟨b6, hb6⟩ : ∃ b, b = x6.heap.size := ⟨_, rfl⟩
    rw [← hx7, ← hb6]
    have hN := pb.new_row x6 41 pa.zero #[.int .i64 s.corr, .int .i64 s.code, .int .i64 s.off, .int .i64 s.last, .int .i64 s.gen, .string s.member, .string s.leader, .slice Dn s.names.length jn, .slice Dm s.nums.length jm, .slice Dd s.data.length jd]
    unfold pa.zero at hN
    rw [← hx7, ← hb6] at hN
    clear hx7 hb6
    have CX := Lib.hid (H6.out.2.trans hN.2 fun _ _ q => q)
    have H7 := Lib.hid (And.intro hN.1 (H6.out.1.below (hN.2.below (Nat.le_refl _) fun _ q => q.elim) (Nat.le_refl _))); clear hN H6
    have hat1 : At (x7.alloc (.cells #[] 5)) Ab m (byteAt (pa.bytes s)) := ((pb.chg (w := x5) (w' := x7) (CX.out.below (Nat.le_refl _) fun _ q => q.elim)).at' HA.out.1 fun _ _ _ _ q => q).alloc _
    have HAT1 := Lib.hid hat1; clear hat1
    have hsrc : ∀ wx : World, At (wx.alloc (.cells #[.int .u8 (xn : Int)] 5)) (some ⟨wx.heap.size, 0, none⟩) 1 (byteAt [xn]) := fun wx => (At.one wx (.int .u8 (xn : Int)) 5).congr fun j hj => by
      obtain rfl : j = 0 := by omega
      rfl
    have HSRC := Lib.hid hsrc; clear hsrc
    go_upto_region 14 with (first
      | (show Go.wpList _ _ _ (⟨_, .store _ (.tmp 24) (.tmp 128), _, _, _, _⟩ :: _) _ _; refine wpList_store_row rfl 41 (.tmp 24) (.tmp 128) rfl x9.heap.size es rfl rfl 41 pa.zero (Blk.new x9 41 pa.zero) (by rw [H9.out.1.1]; exact pa.infoAns) (by rw [H9.out.1.1]; rfl) H9.out.1.2 ?_)
      | (go_at_call 19; refine (pb.read_long s HP.out.2.2.2.1 HP.out.2.1.2 HA.out.2.2.2.2.2.1 HA.out.2.2.2.2.2.2 xn hx m8 HA8.out.1 A8 c8 x8 HA8.out.2.1 HA8.out.2.2.1 HA8.out.2.2.2.1 HA8.out.2.2.2.2.1).mono ?_; rintro en x9 ⟨⟨es, rfl, h1⟩, h2⟩; have H9 := Lib.hid (And.intro h1 (pb.chg h2)); clear h1 h2)
      | (at_builtin; refine wpList_acc rfl (.tmp 123) (.tmp 125) rfl _ _ rfl (HA6.out.keep ((Below.refl _ _).alloc (Nat.le_refl _) _)) _ 1 1 [xn] rfl rfl (HSRC.out _) (by rw [List.nil_append, ← HA.out.2.2.2.2.1]; simp; omega) ?_; intro v8 x8 hA; rw [List.nil_append] at hA; obtain ⟨A8, c8, hv8, hle8, hat8⟩ := hA.at'; subst hv8; obtain ⟨m8, hm8⟩ : ∃ m8, m8 = (pa.bytes s ++ [xn]).length := ⟨_, rfl⟩; rw [← hm8] at hle8 hat8; rw [← hm8]; have hcm8 : c8 ≤ maxLen := own_cap hA.1; have HA8 := Lib.hid (And.intro hm8 (And.intro hat8 (And.intro hle8 (And.intro hcm8 (And.intro (fun (a : Addr) (ha : A8 = some a) => (hA.1.lt a.block (by rw [ha]; rfl)).2) (pb.chg hA.2)))))); clear hA hle8 hat8 hcm8 hm8)
      | (at_builtin; refine wpList_acc rfl (.tmp 121) (.tmp 122) rfl _ _ rfl (pb.accEmpty x7 x7 (Below.refl _ _)) Ab m cb (pa.bytes s) rfl HA.out.2.2.2.2.1.symm HAT1.out (by rw [← HA.out.2.2.2.2.1]; simp; omega) ?_; intro v6 x6' hA; have HA6 := Lib.hid hA; clear hA))
    obtain ⟨y0, hy0⟩ : ∃ y0, y0 = (x9.alloc (.cells #[.int .i64 0, .int .i64 0, .int .i64 0, .int .i64 0, .int .i64 0, .string (ByteArray.mk #[]), .string (ByteArray.mk #[]), .slice none 0 0, .slice none 0 0, .slice none 0 0] 41)).setRow x9.heap.size es := ⟨_, rfl⟩
    obtain ⟨b9, hb9⟩ : ∃ b, b = x9.heap.size := ⟨_, rfl⟩
    rw [← hy0, ← hb9]
    have hN := pb.new_row x9 41 pa.zero es
    unfold pa.zero at hN
    rw [← hy0, ← hb9] at hN
    clear hy0 hb9
    have C79 := Lib.hid ((HA8.out.2.2.2.2.2.trans H9.out.2 fun _ _ q => q).trans hN.2 fun _ _ q => q); clear hN
    have C0 := Lib.hid (((CY.out.trans CX.out fun _ _ q => q)).trans C79.out fun _ _ q => q)
    have yu0 : y0.cell? ⟨(b0 + 1), 0, none⟩ = some (.int .i64 s.corr) := (C0.out.blk HB.out.2.1 fun q => q).cell 0 rfl
    have yu1 : y0.cell? ⟨(b0 + 1), 1, none⟩ = some (.int .i64 s.code) := (C0.out.blk HB.out.2.1 fun q => q).cell 1 rfl
    have yu2 : y0.cell? ⟨(b0 + 1), 2, none⟩ = some (.int .i64 s.off) := (C0.out.blk HB.out.2.1 fun q => q).cell 2 rfl
    have yu3 : y0.cell? ⟨(b0 + 1), 3, none⟩ = some (.int .i64 s.last) := (C0.out.blk HB.out.2.1 fun q => q).cell 3 rfl
    have yu4 : y0.cell? ⟨(b0 + 1), 4, none⟩ = some (.int .i64 s.gen) := (C0.out.blk HB.out.2.1 fun q => q).cell 4 rfl
    have yu5 : y0.cell? ⟨(b0 + 1), 5, none⟩ = some (.string s.member) := (C0.out.blk HB.out.2.1 fun q => q).cell 5 rfl
    have yu6 : y0.cell? ⟨(b0 + 1), 6, none⟩ = some (.string s.leader) := (C0.out.blk HB.out.2.1 fun q => q).cell 6 rfl
    have yu7 : y0.cell? ⟨(b0 + 1), 7, none⟩ = some (.slice Bn s.names.length kn) := (C0.out.blk HB.out.2.1 fun q => q).cell 7 rfl
    have yu8 : y0.cell? ⟨(b0 + 1), 8, none⟩ = some (.slice Bm s.nums.length km) := (C0.out.blk HB.out.2.1 fun q => q).cell 8 rfl
    have yu9 : y0.cell? ⟨(b0 + 1), 9, none⟩ = some (.slice Bd s.data.length kd) := (C0.out.blk HB.out.2.1 fun q => q).cell 9 rfl
    have yul : (b0 + 1) < y0.heap.size := (C0.out.blk HB.out.2.1 fun q => q).lt
    have yd0 : y0.cell? ⟨b6, 0, none⟩ = some (.int .i64 s.corr) := (C79.out.blk H7.out.1 fun q => q).cell 0 rfl
    have yd1 : y0.cell? ⟨b6, 1, none⟩ = some (.int .i64 s.code) := (C79.out.blk H7.out.1 fun q => q).cell 1 rfl
    have yd2 : y0.cell? ⟨b6, 2, none⟩ = some (.int .i64 s.off) := (C79.out.blk H7.out.1 fun q => q).cell 2 rfl
    have yd3 : y0.cell? ⟨b6, 3, none⟩ = some (.int .i64 s.last) := (C79.out.blk H7.out.1 fun q => q).cell 3 rfl
    have yd4 : y0.cell? ⟨b6, 4, none⟩ = some (.int .i64 s.gen) := (C79.out.blk H7.out.1 fun q => q).cell 4 rfl
    have yd5 : y0.cell? ⟨b6, 5, none⟩ = some (.string s.member) := (C79.out.blk H7.out.1 fun q => q).cell 5 rfl
    have yd6 : y0.cell? ⟨b6, 6, none⟩ = some (.string s.leader) := (C79.out.blk H7.out.1 fun q => q).cell 6 rfl
    have yd7 : y0.cell? ⟨b6, 7, none⟩ = some (.slice Dn s.names.length jn) := (C79.out.blk H7.out.1 fun q => q).cell 7 rfl
    have yd8 : y0.cell? ⟨b6, 8, none⟩ = some (.slice Dm s.nums.length jm) := (C79.out.blk H7.out.1 fun q => q).cell 8 rfl
    have yd9 : y0.cell? ⟨b6, 9, none⟩ = some (.slice Dd s.data.length jd) := (C79.out.blk H7.out.1 fun q => q).cell 9 rfl
    have ydl : b6 < y0.heap.size := (C79.out.blk H7.out.1 fun q => q).lt
    have hv0 : AnsV y0 Dn jn Dm jm Dd jd s := H7.out.2.below (C79.out.below (Nat.le_refl _) fun _ q => q.elim) (Nat.le_refl _)
    have HV0 := Lib.hid hv0; clear hv0
    go_wp2_with fail
    refine (H.out.2.2.2.2.2.2.1 y0 (HUP.out _ C0.out) Dn jn Dm jm Dd jd HV0.out).mono ?_
    rintro en y1 ⟨rfl, h9⟩
    have HV1 := Lib.hid (HV0.out.below h9 (Nat.le_refl _)); clear HV0
    have C1 := Lib.hid (C0.out.trans (pb.chg h9) fun _ _ q => q)
    have C71 := Lib.hid (C79.out.trans (pb.chg h9) fun _ _ q => q); clear h9
    clear yu0 yu1 yu2 yu3 yu4 yu5 yu6 yu7 yu8 yu9 yul yd0 yd1 yd2 yd3 yd4 yd5 yd6 yd7 yd8 yd9 ydl
    have yu0 : y1.cell? ⟨(b0 + 1), 0, none⟩ = some (.int .i64 s.corr) := (C1.out.blk HB.out.2.1 fun q => q).cell 0 rfl
    have yu1 : y1.cell? ⟨(b0 + 1), 1, none⟩ = some (.int .i64 s.code) := (C1.out.blk HB.out.2.1 fun q => q).cell 1 rfl
    have yu2 : y1.cell? ⟨(b0 + 1), 2, none⟩ = some (.int .i64 s.off) := (C1.out.blk HB.out.2.1 fun q => q).cell 2 rfl
    have yu3 : y1.cell? ⟨(b0 + 1), 3, none⟩ = some (.int .i64 s.last) := (C1.out.blk HB.out.2.1 fun q => q).cell 3 rfl
    have yu4 : y1.cell? ⟨(b0 + 1), 4, none⟩ = some (.int .i64 s.gen) := (C1.out.blk HB.out.2.1 fun q => q).cell 4 rfl
    have yu5 : y1.cell? ⟨(b0 + 1), 5, none⟩ = some (.string s.member) := (C1.out.blk HB.out.2.1 fun q => q).cell 5 rfl
    have yu6 : y1.cell? ⟨(b0 + 1), 6, none⟩ = some (.string s.leader) := (C1.out.blk HB.out.2.1 fun q => q).cell 6 rfl
    have yu7 : y1.cell? ⟨(b0 + 1), 7, none⟩ = some (.slice Bn s.names.length kn) := (C1.out.blk HB.out.2.1 fun q => q).cell 7 rfl
    have yu8 : y1.cell? ⟨(b0 + 1), 8, none⟩ = some (.slice Bm s.nums.length km) := (C1.out.blk HB.out.2.1 fun q => q).cell 8 rfl
    have yu9 : y1.cell? ⟨(b0 + 1), 9, none⟩ = some (.slice Bd s.data.length kd) := (C1.out.blk HB.out.2.1 fun q => q).cell 9 rfl
    have yul : (b0 + 1) < y1.heap.size := (C1.out.blk HB.out.2.1 fun q => q).lt
    have yd0 : y1.cell? ⟨b6, 0, none⟩ = some (.int .i64 s.corr) := (C71.out.blk H7.out.1 fun q => q).cell 0 rfl
    have yd1 : y1.cell? ⟨b6, 1, none⟩ = some (.int .i64 s.code) := (C71.out.blk H7.out.1 fun q => q).cell 1 rfl
    have yd2 : y1.cell? ⟨b6, 2, none⟩ = some (.int .i64 s.off) := (C71.out.blk H7.out.1 fun q => q).cell 2 rfl
    have yd3 : y1.cell? ⟨b6, 3, none⟩ = some (.int .i64 s.last) := (C71.out.blk H7.out.1 fun q => q).cell 3 rfl
    have yd4 : y1.cell? ⟨b6, 4, none⟩ = some (.int .i64 s.gen) := (C71.out.blk H7.out.1 fun q => q).cell 4 rfl
    have yd5 : y1.cell? ⟨b6, 5, none⟩ = some (.string s.member) := (C71.out.blk H7.out.1 fun q => q).cell 5 rfl
    have yd6 : y1.cell? ⟨b6, 6, none⟩ = some (.string s.leader) := (C71.out.blk H7.out.1 fun q => q).cell 6 rfl
    have yd7 : y1.cell? ⟨b6, 7, none⟩ = some (.slice Dn s.names.length jn) := (C71.out.blk H7.out.1 fun q => q).cell 7 rfl
    have yd8 : y1.cell? ⟨b6, 8, none⟩ = some (.slice Dm s.nums.length jm) := (C71.out.blk H7.out.1 fun q => q).cell 8 rfl
    have yd9 : y1.cell? ⟨b6, 9, none⟩ = some (.slice Dd s.data.length jd) := (C71.out.blk H7.out.1 fun q => q).cell 9 rfl
    have ydl : b6 < y1.heap.size := (C71.out.blk H7.out.1 fun q => q).lt
    go_wp2_with fail
    refine (H.out.2.2.2.2.2.2.2 y1 (HUP.out _ C1.out) Dn jn Dm jm Dd jd HV1.out).mono ?_
    rintro en y2 ⟨rfl, h9⟩
    have C2 := Lib.hid (C1.out.trans (pb.chg h9) fun _ _ q => q); clear h9
    clear yu0 yu1 yu2 yu3 yu4 yu5 yu6 yu7 yu8 yu9 yul yd0 yd1 yd2 yd3 yd4 yd5 yd6 yd7 yd8 yd9 ydl
    go_wp2_with fail
    refine (HGO.out y2).mono ?_
    rintro en y3 ⟨rfl, h9⟩
    have C6 := Lib.hid (HUP.out _ (C2.out.trans (pb.chg h9) fun _ _ q => q)); clear h9
    go_wp2_with fail
    go_ret
    exact ⟨rfl, C6.out⟩
  rw [if_pos hc, hc]
  rintro en w5 ⟨⟨v, rfl, h8⟩, h9⟩
  obtain ⟨n, hn⟩ : ∃ n, n = (pq.bytes r).length := ⟨_, rfl⟩
  rw [← hn] at h8
  obtain ⟨Aa, ca, rfl, -, -⟩ := own_at h8
  obtain ⟨Aa9, ca9, e9, hac, -, hat⟩ := own_bytes h8
  obtain ⟨rfl, rfl⟩ : Aa = Aa9 ∧ ca = ca9 := by injection e9 with e1 e2 e3; exact ⟨e1, e3⟩
  have ham := own_cap h8
  have hnl : n ≤ 131072 := by rw [hn]; exact (pq.bytes_len hc).2
  have HA := Lib.hid (And.intro hat (And.intro hac (And.intro ham (And.intro hn (And.intro hc (pb.req_byte r HP.out.2.2.1 hc HP.out.1)))))); clear hat hac ham hn hc e9 h8
  have C5 := Lib.hid (C4.out.trans (pb.chg h9) fun _ _ q => q); clear h9 C4
  go_upto_region 6 with (first
    | (show Go.wpList _ _ _ (⟨_, .store _ (.tmp 11) (.tmp 45), _, _, _, _⟩ :: _) _ _; refine wpList_store_row rfl 25 (.tmp 11) (.tmp 45) rfl w6.heap.size #[.int .i64 r.kind, .int .i64 r.corr, .string r.client, .string r.topic, .int .i64 r.part, .int .i64 r.off, .int .i64 r.time, .int .i64 r.most, .string r.group, .string r.member, .int .i64 r.gen, .slice Dn r.names.length jn, .slice Dd r.data.length jd] rfl rfl 25 pq.zero (Blk.new w6 25 pq.zero) pq.infoReq rfl (by simp [Value.oneCell']) ?_)
    | (go_at_call 12; refine (pb.decode_own r HP.out.2.2.1 HA.out.2.2.2.2.1 HA.out.2.2.2.2.2 n HA.out.2.2.2.1 Aa ca w5 HA.out.1 HA.out.2.1 HA.out.2.2.1).mono ?_; rintro en w6 ⟨⟨Dn, jn, Dd, jd, rfl, h1⟩, h2⟩; unfold PReq.cells; have H6 := Lib.hid (And.intro h1 (pb.chg h2)); clear h1 h2))
  obtain ⟨w7, hw7⟩ : ∃ w7, w7 = (w6.alloc (.cells #[.int .i64 0, .int .i64 0, .string (ByteArray.mk #[]), .string (ByteArray.mk #[]), .int .i64 0, .int .i64 0, .int .i64 0, .int .i64 0, .string (ByteArray.mk #[]), .string (ByteArray.mk #[]), .int .i64 0, .slice none 0 0, .slice none 0 0] 25)).setRow w6.heap.size #[.int .i64 r.kind, .int .i64 r.corr, .string r.client, .string r.topic, .int .i64 r.part, .int .i64 r.off, .int .i64 r.time, .int .i64 r.most, .string r.group, .string r.member, .int .i64 r.gen, .slice Dn r.names.length jn, .slice Dd r.data.length jd] := ⟨_, rfl⟩
  obtain ⟨b6, hb6⟩ : ∃ b, b = w6.heap.size := ⟨_, rfl⟩
  rw [← hw7, ← hb6]
  have hN := pb.new_row w6 25 pq.zero #[.int .i64 r.kind, .int .i64 r.corr, .string r.client, .string r.topic, .int .i64 r.part, .int .i64 r.off, .int .i64 r.time, .int .i64 r.most, .string r.group, .string r.member, .int .i64 r.gen, .slice Dn r.names.length jn, .slice Dd r.data.length jd]
  unfold pq.zero at hN
  rw [← hw7, ← hb6] at hN
  clear hw7 hb6
  have C57 := Lib.hid (H6.out.2.trans hN.2 fun _ _ q => q)
  have H7 := Lib.hid (And.intro hN.1 (H6.out.1.below (hN.2.below (Nat.le_refl _) fun _ q => q.elim) (Nat.le_refl _))); clear hN H6
  obtain ⟨k, hk, hround⟩ := pb.round cut ((n : Int) + 1) HP.out.2.2.2.2 (by omega) (by omega)
  have hkn : k ≤ n := by omega
  have hkn2 : ((k : Int) ≤ (ca : Int)) := by have := HA.out.2.1; omega
  have HRD := Lib.hid hround; clear hround hk
  have hat7 : At w7 Aa n (byteAt (pq.bytes r)) := C57.out.at' HA.out.1 fun _ _ _ _ q => q
  have HAT7 := Lib.hid hat7; clear hat7
  go_upto_region 7 with (first
    | (show Go.wpList _ _ _ (⟨_, .store _ (.tmp 14) (.tmp 57), _, _, _, _⟩ :: _) _ _; refine wpList_store_row rfl 25 (.tmp 14) (.tmp 57) rfl w8.heap.size ds rfl rfl 25 pq.zero (Blk.new w8 25 pq.zero) (by rw [H8.out.1.1]; exact pq.infoReq) (by rw [H8.out.1.1]; rfl) H8.out.1.2 ?_)
    | (go_at_call 12; refine (pb.decode_cut r HP.out.2.2.1 HA.out.2.2.2.2.1 HA.out.2.2.2.2.2 n k HA.out.2.2.2.1 hkn Aa ca w7 HAT7.out HA.out.2.1 HA.out.2.2.1).mono ?_; rintro en w8 ⟨⟨ds, x8, z8, rfl, h1, h3⟩, h2⟩; have H8 := Lib.hid (And.intro h1 (And.intro h3 (pb.chg h2))); clear h1 h2 h3)
    | (go_at_call 17; refine (HRD.out w7).mono ?_; rintro en w7' ⟨rfl, h1⟩; subst h1))
  obtain ⟨w9, hw9⟩ : ∃ w9, w9 = (w8.alloc (.cells #[.int .i64 0, .int .i64 0, .string (ByteArray.mk #[]), .string (ByteArray.mk #[]), .int .i64 0, .int .i64 0, .int .i64 0, .int .i64 0, .string (ByteArray.mk #[]), .string (ByteArray.mk #[]), .int .i64 0, .slice none 0 0, .slice none 0 0] 25)).setRow w8.heap.size ds := ⟨_, rfl⟩
  obtain ⟨b8, hb8⟩ : ∃ b, b = w8.heap.size := ⟨_, rfl⟩
  rw [← hw9, ← hb8]
  have hN := pb.new_row w8 25 pq.zero ds
  unfold pq.zero at hN
  rw [← hw9, ← hb8] at hN
  clear hw9 hb8
  have C79 := Lib.hid (H8.out.2.2.trans hN.2 fun _ _ q => q); clear hN
  have hat1 : At (w9.alloc (.cells #[] 5)) Aa n (byteAt (pq.bytes r)) := (C79.out.at' HAT7.out fun _ _ _ _ q => q).alloc _
  have HAT1 := Lib.hid hat1; clear hat1
  have hsrc : ∀ wx : World, At (wx.alloc (.cells #[.int .u8 (xn : Int)] 5)) (some ⟨wx.heap.size, 0, none⟩) 1 (byteAt [xn]) := fun wx => (At.one wx (.int .u8 (xn : Int)) 5).congr fun j hj => by
    obtain rfl : j = 0 := by omega
    rfl
  have HSRC := Lib.hid hsrc; clear hsrc
  go_upto_region 8 with (first
    | (show Go.wpList _ _ _ (⟨_, .store _ (.tmp 17) (.tmp 68), _, _, _, _⟩ :: _) _ _; refine wpList_store_row rfl 25 (.tmp 17) (.tmp 68) rfl w12.heap.size es rfl rfl 25 pq.zero (Blk.new w12 25 pq.zero) (by rw [H12.out.1.1]; exact pq.infoReq) (by rw [H12.out.1.1]; rfl) H12.out.1.2 ?_)
    | (go_at_call 12; refine (pb.decode_long r HP.out.2.2.1 HA.out.2.2.2.2.1 HA.out.2.2.2.2.2 xn hx m8 HA8.out.1 A8 c8 w11 HA8.out.2.1 HA8.out.2.2.1 HA8.out.2.2.2.1).mono ?_; rintro en w12 ⟨⟨es, xl, zl, rfl, h1, h3⟩, h2⟩; have H12 := Lib.hid (And.intro h1 (And.intro h3 (pb.chg h2))); clear h1 h2 h3)
    | (at_builtin; refine wpList_acc rfl (.tmp 63) (.tmp 65) rfl _ _ rfl (HA6.out.keep ((Below.refl _ _).alloc (Nat.le_refl _) _)) _ 1 1 [xn] rfl rfl (HSRC.out _) (by rw [List.nil_append, ← HA.out.2.2.2.1]; simp; omega) ?_; intro v8 w11 hA; rw [List.nil_append] at hA; obtain ⟨A8, c8, hv8, hle8, hat8⟩ := hA.at'; subst hv8; obtain ⟨m8, hm8⟩ : ∃ m8, m8 = (pq.bytes r ++ [xn]).length := ⟨_, rfl⟩; rw [← hm8] at hle8 hat8; rw [← hm8]; have hcm8 : c8 ≤ maxLen := own_cap hA.1; have HA8 := Lib.hid (And.intro hm8 (And.intro hat8 (And.intro hle8 (And.intro hcm8 (pb.chg hA.2))))); clear hA hle8 hat8 hcm8 hm8)
    | (at_builtin; refine wpList_acc rfl (.tmp 61) (.tmp 62) rfl _ _ rfl (pb.accEmpty w9 w9 (Below.refl _ _)) Aa n ca (pq.bytes r) rfl HA.out.2.2.2.1.symm HAT1.out (by rw [← HA.out.2.2.2.1]; simp; omega) ?_; intro v6 w10 hA; have HA6 := Lib.hid hA; clear hA))
  obtain ⟨w13, hw13⟩ : ∃ w13, w13 = (w12.alloc (.cells #[.int .i64 0, .int .i64 0, .string (ByteArray.mk #[]), .string (ByteArray.mk #[]), .int .i64 0, .int .i64 0, .int .i64 0, .int .i64 0, .string (ByteArray.mk #[]), .string (ByteArray.mk #[]), .int .i64 0, .slice none 0 0, .slice none 0 0] 25)).setRow w12.heap.size es := ⟨_, rfl⟩
  obtain ⟨b12, hb12⟩ : ∃ b, b = w12.heap.size := ⟨_, rfl⟩
  rw [← hw13, ← hb12]
  have hN := pb.new_row w12 25 pq.zero es
  unfold pq.zero at hN
  rw [← hw13, ← hb12] at hN
  clear hw13 hb12
  have C713 := Lib.hid (C79.out.trans ((HA8.out.2.2.2.2.trans H12.out.2.2 fun _ _ q => q).trans hN.2 fun _ _ q => q) fun _ _ q => q); clear hN
  have C13 := Lib.hid ((C5.out.trans C57.out fun _ _ q => q).trans C713.out fun _ _ q => q)
  have hz8 := H8.out.2.1
  have hzl := H12.out.2.1
  have g0 : (zl == 0) = false := by simp [hzl]
  have g1 : (zl != 0) = true := by simp [hzl]
  have g2 : (z8 == 0) = decide ((k : Int) = (n : Int)) := by
    by_cases h0 : z8 = 0
    · rw [decide_eq_true (by have := hz8.1 h0; omega)]; simp [h0]
    · rw [decide_eq_false (fun h => h0 (hz8.2 (by omega)))]; simp [h0]
  have yu0 : w13.cell? ⟨b0, 0, none⟩ = some (.int .i64 r.kind) := (C13.out.blk HB.out.1 fun q => q).cell 0 rfl
  have yu1 : w13.cell? ⟨b0, 1, none⟩ = some (.int .i64 r.corr) := (C13.out.blk HB.out.1 fun q => q).cell 1 rfl
  have yu2 : w13.cell? ⟨b0, 2, none⟩ = some (.string r.client) := (C13.out.blk HB.out.1 fun q => q).cell 2 rfl
  have yu3 : w13.cell? ⟨b0, 3, none⟩ = some (.string r.topic) := (C13.out.blk HB.out.1 fun q => q).cell 3 rfl
  have yu4 : w13.cell? ⟨b0, 4, none⟩ = some (.int .i64 r.part) := (C13.out.blk HB.out.1 fun q => q).cell 4 rfl
  have yu5 : w13.cell? ⟨b0, 5, none⟩ = some (.int .i64 r.off) := (C13.out.blk HB.out.1 fun q => q).cell 5 rfl
  have yu6 : w13.cell? ⟨b0, 6, none⟩ = some (.int .i64 r.time) := (C13.out.blk HB.out.1 fun q => q).cell 6 rfl
  have yu7 : w13.cell? ⟨b0, 7, none⟩ = some (.int .i64 r.most) := (C13.out.blk HB.out.1 fun q => q).cell 7 rfl
  have yu8 : w13.cell? ⟨b0, 8, none⟩ = some (.string r.group) := (C13.out.blk HB.out.1 fun q => q).cell 8 rfl
  have yu9 : w13.cell? ⟨b0, 9, none⟩ = some (.string r.member) := (C13.out.blk HB.out.1 fun q => q).cell 9 rfl
  have yu10 : w13.cell? ⟨b0, 10, none⟩ = some (.int .i64 r.gen) := (C13.out.blk HB.out.1 fun q => q).cell 10 rfl
  have yu11 : w13.cell? ⟨b0, 11, none⟩ = some (.slice An r.names.length cn) := (C13.out.blk HB.out.1 fun q => q).cell 11 rfl
  have yu12 : w13.cell? ⟨b0, 12, none⟩ = some (.slice Ad r.data.length cd) := (C13.out.blk HB.out.1 fun q => q).cell 12 rfl
  have yul : b0 < w13.heap.size := (C13.out.blk HB.out.1 fun q => q).lt
  have yd0 : w13.cell? ⟨b6, 0, none⟩ = some (.int .i64 r.kind) := (C713.out.blk H7.out.1 fun q => q).cell 0 rfl
  have yd1 : w13.cell? ⟨b6, 1, none⟩ = some (.int .i64 r.corr) := (C713.out.blk H7.out.1 fun q => q).cell 1 rfl
  have yd2 : w13.cell? ⟨b6, 2, none⟩ = some (.string r.client) := (C713.out.blk H7.out.1 fun q => q).cell 2 rfl
  have yd3 : w13.cell? ⟨b6, 3, none⟩ = some (.string r.topic) := (C713.out.blk H7.out.1 fun q => q).cell 3 rfl
  have yd4 : w13.cell? ⟨b6, 4, none⟩ = some (.int .i64 r.part) := (C713.out.blk H7.out.1 fun q => q).cell 4 rfl
  have yd5 : w13.cell? ⟨b6, 5, none⟩ = some (.int .i64 r.off) := (C713.out.blk H7.out.1 fun q => q).cell 5 rfl
  have yd6 : w13.cell? ⟨b6, 6, none⟩ = some (.int .i64 r.time) := (C713.out.blk H7.out.1 fun q => q).cell 6 rfl
  have yd7 : w13.cell? ⟨b6, 7, none⟩ = some (.int .i64 r.most) := (C713.out.blk H7.out.1 fun q => q).cell 7 rfl
  have yd8 : w13.cell? ⟨b6, 8, none⟩ = some (.string r.group) := (C713.out.blk H7.out.1 fun q => q).cell 8 rfl
  have yd9 : w13.cell? ⟨b6, 9, none⟩ = some (.string r.member) := (C713.out.blk H7.out.1 fun q => q).cell 9 rfl
  have yd10 : w13.cell? ⟨b6, 10, none⟩ = some (.int .i64 r.gen) := (C713.out.blk H7.out.1 fun q => q).cell 10 rfl
  have yd11 : w13.cell? ⟨b6, 11, none⟩ = some (.slice Dn r.names.length jn) := (C713.out.blk H7.out.1 fun q => q).cell 11 rfl
  have yd12 : w13.cell? ⟨b6, 12, none⟩ = some (.slice Dd r.data.length jd) := (C713.out.blk H7.out.1 fun q => q).cell 12 rfl
  have ydl : b6 < w13.heap.size := (C713.out.blk H7.out.1 fun q => q).lt
  have HV0 := Lib.hid (H7.out.2.below (C713.out.below (Nat.le_refl _) fun _ q => q.elim) (Nat.le_refl _))
  go_wp2_with fail
  refine (H.out.2.2.2.2.1 w13 (HUP.out _ C13.out) Dn jn Dd jd HV0.out).mono ?_
  rintro en w14 ⟨rfl, h9⟩
  have HV1 := Lib.hid (HV0.out.below h9 (Nat.le_refl _)); clear HV0
  have C14 := Lib.hid (C13.out.trans (pb.chg h9) fun _ _ q => q)
  have C714 := Lib.hid (C713.out.trans (pb.chg h9) fun _ _ q => q); clear h9 C13 C713
  clear yu0 yu1 yu2 yu3 yu4 yu5 yu6 yu7 yu8 yu9 yu10 yu11 yu12 yul yd0 yd1 yd2 yd3 yd4 yd5 yd6 yd7 yd8 yd9 yd10 yd11 yd12 ydl
  have yu0 : w14.cell? ⟨b0, 0, none⟩ = some (.int .i64 r.kind) := (C14.out.blk HB.out.1 fun q => q).cell 0 rfl
  have yu1 : w14.cell? ⟨b0, 1, none⟩ = some (.int .i64 r.corr) := (C14.out.blk HB.out.1 fun q => q).cell 1 rfl
  have yu2 : w14.cell? ⟨b0, 2, none⟩ = some (.string r.client) := (C14.out.blk HB.out.1 fun q => q).cell 2 rfl
  have yu3 : w14.cell? ⟨b0, 3, none⟩ = some (.string r.topic) := (C14.out.blk HB.out.1 fun q => q).cell 3 rfl
  have yu4 : w14.cell? ⟨b0, 4, none⟩ = some (.int .i64 r.part) := (C14.out.blk HB.out.1 fun q => q).cell 4 rfl
  have yu5 : w14.cell? ⟨b0, 5, none⟩ = some (.int .i64 r.off) := (C14.out.blk HB.out.1 fun q => q).cell 5 rfl
  have yu6 : w14.cell? ⟨b0, 6, none⟩ = some (.int .i64 r.time) := (C14.out.blk HB.out.1 fun q => q).cell 6 rfl
  have yu7 : w14.cell? ⟨b0, 7, none⟩ = some (.int .i64 r.most) := (C14.out.blk HB.out.1 fun q => q).cell 7 rfl
  have yu8 : w14.cell? ⟨b0, 8, none⟩ = some (.string r.group) := (C14.out.blk HB.out.1 fun q => q).cell 8 rfl
  have yu9 : w14.cell? ⟨b0, 9, none⟩ = some (.string r.member) := (C14.out.blk HB.out.1 fun q => q).cell 9 rfl
  have yu10 : w14.cell? ⟨b0, 10, none⟩ = some (.int .i64 r.gen) := (C14.out.blk HB.out.1 fun q => q).cell 10 rfl
  have yu11 : w14.cell? ⟨b0, 11, none⟩ = some (.slice An r.names.length cn) := (C14.out.blk HB.out.1 fun q => q).cell 11 rfl
  have yu12 : w14.cell? ⟨b0, 12, none⟩ = some (.slice Ad r.data.length cd) := (C14.out.blk HB.out.1 fun q => q).cell 12 rfl
  have yul : b0 < w14.heap.size := (C14.out.blk HB.out.1 fun q => q).lt
  have yd0 : w14.cell? ⟨b6, 0, none⟩ = some (.int .i64 r.kind) := (C714.out.blk H7.out.1 fun q => q).cell 0 rfl
  have yd1 : w14.cell? ⟨b6, 1, none⟩ = some (.int .i64 r.corr) := (C714.out.blk H7.out.1 fun q => q).cell 1 rfl
  have yd2 : w14.cell? ⟨b6, 2, none⟩ = some (.string r.client) := (C714.out.blk H7.out.1 fun q => q).cell 2 rfl
  have yd3 : w14.cell? ⟨b6, 3, none⟩ = some (.string r.topic) := (C714.out.blk H7.out.1 fun q => q).cell 3 rfl
  have yd4 : w14.cell? ⟨b6, 4, none⟩ = some (.int .i64 r.part) := (C714.out.blk H7.out.1 fun q => q).cell 4 rfl
  have yd5 : w14.cell? ⟨b6, 5, none⟩ = some (.int .i64 r.off) := (C714.out.blk H7.out.1 fun q => q).cell 5 rfl
  have yd6 : w14.cell? ⟨b6, 6, none⟩ = some (.int .i64 r.time) := (C714.out.blk H7.out.1 fun q => q).cell 6 rfl
  have yd7 : w14.cell? ⟨b6, 7, none⟩ = some (.int .i64 r.most) := (C714.out.blk H7.out.1 fun q => q).cell 7 rfl
  have yd8 : w14.cell? ⟨b6, 8, none⟩ = some (.string r.group) := (C714.out.blk H7.out.1 fun q => q).cell 8 rfl
  have yd9 : w14.cell? ⟨b6, 9, none⟩ = some (.string r.member) := (C714.out.blk H7.out.1 fun q => q).cell 9 rfl
  have yd10 : w14.cell? ⟨b6, 10, none⟩ = some (.int .i64 r.gen) := (C714.out.blk H7.out.1 fun q => q).cell 10 rfl
  have yd11 : w14.cell? ⟨b6, 11, none⟩ = some (.slice Dn r.names.length jn) := (C714.out.blk H7.out.1 fun q => q).cell 11 rfl
  have yd12 : w14.cell? ⟨b6, 12, none⟩ = some (.slice Dd r.data.length jd) := (C714.out.blk H7.out.1 fun q => q).cell 12 rfl
  have ydl : b6 < w14.heap.size := (C714.out.blk H7.out.1 fun q => q).lt
  go_wp2_with fail
  refine (H.out.2.2.2.2.2.1 w14 (HUP.out _ C14.out) Dn jn Dd jd HV1.out).mono ?_
  rintro en w15 ⟨rfl, h9⟩
  have CZ := Lib.hid (C14.out.trans (pb.chg h9) fun _ _ q => q); clear h9 C14 C714
  clear yu0 yu1 yu2 yu3 yu4 yu5 yu6 yu7 yu8 yu9 yu10 yu11 yu12 yul yd0 yd1 yd2 yd3 yd4 yd5 yd6 yd7 yd8 yd9 yd10 yd11 yd12 ydl hz8 hzl
  go_upto_region 10 with (go_at_call 17; refine (HRD.out w15).mono ?_; rintro en w15' ⟨rfl, h1⟩; subst h1)
  clear HA C57 H7 HRD HAT7 H8 C79 HAT1 HSRC HA6 HA8 H12 HV1
  have yu0 : w15.cell? ⟨(b0 + 1), 0, none⟩ = some (.int .i64 s.corr) := (CZ.out.blk HB.out.2.1 fun q => q).cell 0 rfl
  have yu1 : w15.cell? ⟨(b0 + 1), 1, none⟩ = some (.int .i64 s.code) := (CZ.out.blk HB.out.2.1 fun q => q).cell 1 rfl
  have yu2 : w15.cell? ⟨(b0 + 1), 2, none⟩ = some (.int .i64 s.off) := (CZ.out.blk HB.out.2.1 fun q => q).cell 2 rfl
  have yu3 : w15.cell? ⟨(b0 + 1), 3, none⟩ = some (.int .i64 s.last) := (CZ.out.blk HB.out.2.1 fun q => q).cell 3 rfl
  have yu4 : w15.cell? ⟨(b0 + 1), 4, none⟩ = some (.int .i64 s.gen) := (CZ.out.blk HB.out.2.1 fun q => q).cell 4 rfl
  have yu5 : w15.cell? ⟨(b0 + 1), 5, none⟩ = some (.string s.member) := (CZ.out.blk HB.out.2.1 fun q => q).cell 5 rfl
  have yu6 : w15.cell? ⟨(b0 + 1), 6, none⟩ = some (.string s.leader) := (CZ.out.blk HB.out.2.1 fun q => q).cell 6 rfl
  have yu7 : w15.cell? ⟨(b0 + 1), 7, none⟩ = some (.slice Bn s.names.length kn) := (CZ.out.blk HB.out.2.1 fun q => q).cell 7 rfl
  have yu8 : w15.cell? ⟨(b0 + 1), 8, none⟩ = some (.slice Bm s.nums.length km) := (CZ.out.blk HB.out.2.1 fun q => q).cell 8 rfl
  have yu9 : w15.cell? ⟨(b0 + 1), 9, none⟩ = some (.slice Bd s.data.length kd) := (CZ.out.blk HB.out.2.1 fun q => q).cell 9 rfl
  have yul : (b0 + 1) < w15.heap.size := (CZ.out.blk HB.out.2.1 fun q => q).lt
  go_wp2_with fail
  refine (H.out.2.2.2.1 w15 (HUP.out _ CZ.out)).mono ?_
  clear yu0 yu1 yu2 yu3 yu4 yu5 yu6 yu7 yu8 yu9 yul
  by_cases hca : pa.check s = 0
  case neg =>
    have f0 : (pa.check s == 0) = false := by simp [hca]
    have f1 : (pa.check s != 0) = true := by simp [hca]
    rintro en x5 ⟨⟨v, rfl, -⟩, h9⟩
    have CY := Lib.hid (CZ.out.trans (pb.chg h9) fun _ _ q => q); clear h9
    clear hca
    go_wp2_with fail
    refine (HGO.out x5).mono ?_
    rintro en x6 ⟨rfl, h9⟩
    have C6 := Lib.hid (HUP.out _ (CY.out.trans (pb.chg h9) fun _ _ q => q)); clear h9
    go_wp2_with fail
    go_ret
    exact ⟨rfl, C6.out⟩
  rw [if_pos hca, hca]
  rintro en x5 ⟨⟨v, rfl, h8⟩, h9⟩
  obtain ⟨m, hm⟩ : ∃ m, m = (pa.bytes s).length := ⟨_, rfl⟩
  rw [← hm] at h8
  obtain ⟨Ab, cb, rfl, hbc, hbat⟩ := own_at h8
  obtain ⟨Ab9, cb9, e9, hbc, -, hbat⟩ := own_bytes h8
  obtain ⟨rfl, rfl⟩ : Ab = Ab9 ∧ cb = cb9 := by injection e9 with e1 e2 e3; exact ⟨e1, e3⟩
  have hbm := own_cap h8
  have hbl : ∀ a, Ab = some a → a.block < x5.heap.size := fun a ha => (h8.lt a.block (by rw [ha]; rfl)).2
  have hml : m ≤ 1000000 := by rw [hm]; exact pb.ans_len hca
  have HA := Lib.hid (And.intro hbat (And.intro hbc (And.intro hbm (And.intro hbl (And.intro hm (And.intro hca (pb.ans_byte s HP.out.2.2.2.1 HP.out.2.1.2 hca HP.out.2.1.1))))))); clear hbat hbc hbm hbl hm hca e9 h8
  have CY := Lib.hid (CZ.out.trans (pb.chg h9) fun _ _ q => q); clear h9
  go_upto_region 13 with (first
    | (show Go.wpList _ _ _ (⟨_, .store _ (.tmp 22) (.tmp 118), _, _, _, _⟩ :: _) _ _; refine wpList_store_row rfl 41 (.tmp 22) (.tmp 118) rfl x6.heap.size #[.int .i64 s.corr, .int .i64 s.code, .int .i64 s.off, .int .i64 s.last, .int .i64 s.gen, .string s.member, .string s.leader, .slice Dn s.names.length jn, .slice Dm s.nums.length jm, .slice Dd s.data.length jd] rfl rfl 41 pa.zero (Blk.new x6 41 pa.zero) pa.infoAns rfl (by simp [Value.oneCell']) ?_)
    | (go_at_call 19; refine (pb.read_own s HP.out.2.2.2.1 HP.out.2.1.2 HA.out.2.2.2.2.2.1 HA.out.2.2.2.2.2.2 m HA.out.2.2.2.2.1 Ab cb x5 HA.out.1 HA.out.2.1 HA.out.2.2.1 HA.out.2.2.2.1).mono ?_; rintro en x6 ⟨⟨Dn, jn, Dm, jm, Dd, jd, rfl, h1⟩, h2⟩; unfold PAns.cells; have H6 := Lib.hid (And.intro h1 (pb.chg h2)); clear h1 h2))
  obtain ⟨x7, hx7⟩ : ∃ x7, x7 = (x6.alloc (.cells #[.int .i64 0, .int .i64 0, .int .i64 0, .int .i64 0, .int .i64 0, .string (ByteArray.mk #[]), .string (ByteArray.mk #[]), .slice none 0 0, .slice none 0 0, .slice none 0 0] 41)).setRow x6.heap.size #[.int .i64 s.corr, .int .i64 s.code, .int .i64 s.off, .int .i64 s.last, .int .i64 s.gen, .string s.member, .string s.leader, .slice Dn s.names.length jn, .slice Dm s.nums.length jm, .slice Dd s.data.length jd] := ⟨_, rfl⟩
  obtain ⟨b6, hb6⟩ : ∃ b, b = x6.heap.size := ⟨_, rfl⟩
  rw [← hx7, ← hb6]
  have hN := pb.new_row x6 41 pa.zero #[.int .i64 s.corr, .int .i64 s.code, .int .i64 s.off, .int .i64 s.last, .int .i64 s.gen, .string s.member, .string s.leader, .slice Dn s.names.length jn, .slice Dm s.nums.length jm, .slice Dd s.data.length jd]
  unfold pa.zero at hN
  rw [← hx7, ← hb6] at hN
  clear hx7 hb6
  have CX := Lib.hid (H6.out.2.trans hN.2 fun _ _ q => q)
  have H7 := Lib.hid (And.intro hN.1 (H6.out.1.below (hN.2.below (Nat.le_refl _) fun _ q => q.elim) (Nat.le_refl _))); clear hN H6
  have hat1 : At (x7.alloc (.cells #[] 5)) Ab m (byteAt (pa.bytes s)) := ((pb.chg (w := x5) (w' := x7) (CX.out.below (Nat.le_refl _) fun _ q => q.elim)).at' HA.out.1 fun _ _ _ _ q => q).alloc _
  have HAT1 := Lib.hid hat1; clear hat1
  have hsrc : ∀ wx : World, At (wx.alloc (.cells #[.int .u8 (xn : Int)] 5)) (some ⟨wx.heap.size, 0, none⟩) 1 (byteAt [xn]) := fun wx => (At.one wx (.int .u8 (xn : Int)) 5).congr fun j hj => by
    obtain rfl : j = 0 := by omega
    rfl
  have HSRC := Lib.hid hsrc; clear hsrc
  go_upto_region 14 with (first
    | (show Go.wpList _ _ _ (⟨_, .store _ (.tmp 24) (.tmp 128), _, _, _, _⟩ :: _) _ _; refine wpList_store_row rfl 41 (.tmp 24) (.tmp 128) rfl x9.heap.size es rfl rfl 41 pa.zero (Blk.new x9 41 pa.zero) (by rw [H9.out.1.1]; exact pa.infoAns) (by rw [H9.out.1.1]; rfl) H9.out.1.2 ?_)
    | (go_at_call 19; refine (pb.read_long s HP.out.2.2.2.1 HP.out.2.1.2 HA.out.2.2.2.2.2.1 HA.out.2.2.2.2.2.2 xn hx m8 HA8.out.1 A8 c8 x8 HA8.out.2.1 HA8.out.2.2.1 HA8.out.2.2.2.1 HA8.out.2.2.2.2.1).mono ?_; rintro en x9 ⟨⟨es, rfl, h1⟩, h2⟩; have H9 := Lib.hid (And.intro h1 (pb.chg h2)); clear h1 h2)
    | (at_builtin; refine wpList_acc rfl (.tmp 123) (.tmp 125) rfl _ _ rfl (HA6.out.keep ((Below.refl _ _).alloc (Nat.le_refl _) _)) _ 1 1 [xn] rfl rfl (HSRC.out _) (by rw [List.nil_append, ← HA.out.2.2.2.2.1]; simp; omega) ?_; intro v8 x8 hA; rw [List.nil_append] at hA; obtain ⟨A8, c8, hv8, hle8, hat8⟩ := hA.at'; subst hv8; obtain ⟨m8, hm8⟩ : ∃ m8, m8 = (pa.bytes s ++ [xn]).length := ⟨_, rfl⟩; rw [← hm8] at hle8 hat8; rw [← hm8]; have hcm8 : c8 ≤ maxLen := own_cap hA.1; have HA8 := Lib.hid (And.intro hm8 (And.intro hat8 (And.intro hle8 (And.intro hcm8 (And.intro (fun (a : Addr) (ha : A8 = some a) => (hA.1.lt a.block (by rw [ha]; rfl)).2) (pb.chg hA.2)))))); clear hA hle8 hat8 hcm8 hm8)
    | (at_builtin; refine wpList_acc rfl (.tmp 121) (.tmp 122) rfl _ _ rfl (pb.accEmpty x7 x7 (Below.refl _ _)) Ab m cb (pa.bytes s) rfl HA.out.2.2.2.2.1.symm HAT1.out (by rw [← HA.out.2.2.2.2.1]; simp; omega) ?_; intro v6 x6' hA; have HA6 := Lib.hid hA; clear hA))
  obtain ⟨y0, hy0⟩ : ∃ y0, y0 = (x9.alloc (.cells #[.int .i64 0, .int .i64 0, .int .i64 0, .int .i64 0, .int .i64 0, .string (ByteArray.mk #[]), .string (ByteArray.mk #[]), .slice none 0 0, .slice none 0 0, .slice none 0 0] 41)).setRow x9.heap.size es := ⟨_, rfl⟩
  obtain ⟨b9, hb9⟩ : ∃ b, b = x9.heap.size := ⟨_, rfl⟩
  rw [← hy0, ← hb9]
  have hN := pb.new_row x9 41 pa.zero es
  unfold pa.zero at hN
  rw [← hy0, ← hb9] at hN
  clear hy0 hb9
  have C79 := Lib.hid ((HA8.out.2.2.2.2.2.trans H9.out.2 fun _ _ q => q).trans hN.2 fun _ _ q => q); clear hN
  have C0 := Lib.hid (((CY.out.trans CX.out fun _ _ q => q)).trans C79.out fun _ _ q => q)
  have yu0 : y0.cell? ⟨(b0 + 1), 0, none⟩ = some (.int .i64 s.corr) := (C0.out.blk HB.out.2.1 fun q => q).cell 0 rfl
  have yu1 : y0.cell? ⟨(b0 + 1), 1, none⟩ = some (.int .i64 s.code) := (C0.out.blk HB.out.2.1 fun q => q).cell 1 rfl
  have yu2 : y0.cell? ⟨(b0 + 1), 2, none⟩ = some (.int .i64 s.off) := (C0.out.blk HB.out.2.1 fun q => q).cell 2 rfl
  have yu3 : y0.cell? ⟨(b0 + 1), 3, none⟩ = some (.int .i64 s.last) := (C0.out.blk HB.out.2.1 fun q => q).cell 3 rfl
  have yu4 : y0.cell? ⟨(b0 + 1), 4, none⟩ = some (.int .i64 s.gen) := (C0.out.blk HB.out.2.1 fun q => q).cell 4 rfl
  have yu5 : y0.cell? ⟨(b0 + 1), 5, none⟩ = some (.string s.member) := (C0.out.blk HB.out.2.1 fun q => q).cell 5 rfl
  have yu6 : y0.cell? ⟨(b0 + 1), 6, none⟩ = some (.string s.leader) := (C0.out.blk HB.out.2.1 fun q => q).cell 6 rfl
  have yu7 : y0.cell? ⟨(b0 + 1), 7, none⟩ = some (.slice Bn s.names.length kn) := (C0.out.blk HB.out.2.1 fun q => q).cell 7 rfl
  have yu8 : y0.cell? ⟨(b0 + 1), 8, none⟩ = some (.slice Bm s.nums.length km) := (C0.out.blk HB.out.2.1 fun q => q).cell 8 rfl
  have yu9 : y0.cell? ⟨(b0 + 1), 9, none⟩ = some (.slice Bd s.data.length kd) := (C0.out.blk HB.out.2.1 fun q => q).cell 9 rfl
  have yul : (b0 + 1) < y0.heap.size := (C0.out.blk HB.out.2.1 fun q => q).lt
  have yd0 : y0.cell? ⟨b6, 0, none⟩ = some (.int .i64 s.corr) := (C79.out.blk H7.out.1 fun q => q).cell 0 rfl
  have yd1 : y0.cell? ⟨b6, 1, none⟩ = some (.int .i64 s.code) := (C79.out.blk H7.out.1 fun q => q).cell 1 rfl
  have yd2 : y0.cell? ⟨b6, 2, none⟩ = some (.int .i64 s.off) := (C79.out.blk H7.out.1 fun q => q).cell 2 rfl
  have yd3 : y0.cell? ⟨b6, 3, none⟩ = some (.int .i64 s.last) := (C79.out.blk H7.out.1 fun q => q).cell 3 rfl
  have yd4 : y0.cell? ⟨b6, 4, none⟩ = some (.int .i64 s.gen) := (C79.out.blk H7.out.1 fun q => q).cell 4 rfl
  have yd5 : y0.cell? ⟨b6, 5, none⟩ = some (.string s.member) := (C79.out.blk H7.out.1 fun q => q).cell 5 rfl
  have yd6 : y0.cell? ⟨b6, 6, none⟩ = some (.string s.leader) := (C79.out.blk H7.out.1 fun q => q).cell 6 rfl
  have yd7 : y0.cell? ⟨b6, 7, none⟩ = some (.slice Dn s.names.length jn) := (C79.out.blk H7.out.1 fun q => q).cell 7 rfl
  have yd8 : y0.cell? ⟨b6, 8, none⟩ = some (.slice Dm s.nums.length jm) := (C79.out.blk H7.out.1 fun q => q).cell 8 rfl
  have yd9 : y0.cell? ⟨b6, 9, none⟩ = some (.slice Dd s.data.length jd) := (C79.out.blk H7.out.1 fun q => q).cell 9 rfl
  have ydl : b6 < y0.heap.size := (C79.out.blk H7.out.1 fun q => q).lt
  have hv0 : AnsV y0 Dn jn Dm jm Dd jd s := H7.out.2.below (C79.out.below (Nat.le_refl _) fun _ q => q.elim) (Nat.le_refl _)
  have HV0 := Lib.hid hv0; clear hv0
  go_wp2_with fail
  refine (H.out.2.2.2.2.2.2.1 y0 (HUP.out _ C0.out) Dn jn Dm jm Dd jd HV0.out).mono ?_
  rintro en y1 ⟨rfl, h9⟩
  have HV1 := Lib.hid (HV0.out.below h9 (Nat.le_refl _)); clear HV0
  have C1 := Lib.hid (C0.out.trans (pb.chg h9) fun _ _ q => q)
  have C71 := Lib.hid (C79.out.trans (pb.chg h9) fun _ _ q => q); clear h9
  clear yu0 yu1 yu2 yu3 yu4 yu5 yu6 yu7 yu8 yu9 yul yd0 yd1 yd2 yd3 yd4 yd5 yd6 yd7 yd8 yd9 ydl
  have yu0 : y1.cell? ⟨(b0 + 1), 0, none⟩ = some (.int .i64 s.corr) := (C1.out.blk HB.out.2.1 fun q => q).cell 0 rfl
  have yu1 : y1.cell? ⟨(b0 + 1), 1, none⟩ = some (.int .i64 s.code) := (C1.out.blk HB.out.2.1 fun q => q).cell 1 rfl
  have yu2 : y1.cell? ⟨(b0 + 1), 2, none⟩ = some (.int .i64 s.off) := (C1.out.blk HB.out.2.1 fun q => q).cell 2 rfl
  have yu3 : y1.cell? ⟨(b0 + 1), 3, none⟩ = some (.int .i64 s.last) := (C1.out.blk HB.out.2.1 fun q => q).cell 3 rfl
  have yu4 : y1.cell? ⟨(b0 + 1), 4, none⟩ = some (.int .i64 s.gen) := (C1.out.blk HB.out.2.1 fun q => q).cell 4 rfl
  have yu5 : y1.cell? ⟨(b0 + 1), 5, none⟩ = some (.string s.member) := (C1.out.blk HB.out.2.1 fun q => q).cell 5 rfl
  have yu6 : y1.cell? ⟨(b0 + 1), 6, none⟩ = some (.string s.leader) := (C1.out.blk HB.out.2.1 fun q => q).cell 6 rfl
  have yu7 : y1.cell? ⟨(b0 + 1), 7, none⟩ = some (.slice Bn s.names.length kn) := (C1.out.blk HB.out.2.1 fun q => q).cell 7 rfl
  have yu8 : y1.cell? ⟨(b0 + 1), 8, none⟩ = some (.slice Bm s.nums.length km) := (C1.out.blk HB.out.2.1 fun q => q).cell 8 rfl
  have yu9 : y1.cell? ⟨(b0 + 1), 9, none⟩ = some (.slice Bd s.data.length kd) := (C1.out.blk HB.out.2.1 fun q => q).cell 9 rfl
  have yul : (b0 + 1) < y1.heap.size := (C1.out.blk HB.out.2.1 fun q => q).lt
  have yd0 : y1.cell? ⟨b6, 0, none⟩ = some (.int .i64 s.corr) := (C71.out.blk H7.out.1 fun q => q).cell 0 rfl
  have yd1 : y1.cell? ⟨b6, 1, none⟩ = some (.int .i64 s.code) := (C71.out.blk H7.out.1 fun q => q).cell 1 rfl
  have yd2 : y1.cell? ⟨b6, 2, none⟩ = some (.int .i64 s.off) := (C71.out.blk H7.out.1 fun q => q).cell 2 rfl
  have yd3 : y1.cell? ⟨b6, 3, none⟩ = some (.int .i64 s.last) := (C71.out.blk H7.out.1 fun q => q).cell 3 rfl
  have yd4 : y1.cell? ⟨b6, 4, none⟩ = some (.int .i64 s.gen) := (C71.out.blk H7.out.1 fun q => q).cell 4 rfl
  have yd5 : y1.cell? ⟨b6, 5, none⟩ = some (.string s.member) := (C71.out.blk H7.out.1 fun q => q).cell 5 rfl
  have yd6 : y1.cell? ⟨b6, 6, none⟩ = some (.string s.leader) := (C71.out.blk H7.out.1 fun q => q).cell 6 rfl
  have yd7 : y1.cell? ⟨b6, 7, none⟩ = some (.slice Dn s.names.length jn) := (C71.out.blk H7.out.1 fun q => q).cell 7 rfl
  have yd8 : y1.cell? ⟨b6, 8, none⟩ = some (.slice Dm s.nums.length jm) := (C71.out.blk H7.out.1 fun q => q).cell 8 rfl
  have yd9 : y1.cell? ⟨b6, 9, none⟩ = some (.slice Dd s.data.length jd) := (C71.out.blk H7.out.1 fun q => q).cell 9 rfl
  have ydl : b6 < y1.heap.size := (C71.out.blk H7.out.1 fun q => q).lt
  go_wp2_with fail
  refine (H.out.2.2.2.2.2.2.2 y1 (HUP.out _ C1.out) Dn jn Dm jm Dd jd HV1.out).mono ?_
  rintro en y2 ⟨rfl, h9⟩
  have C2 := Lib.hid (C1.out.trans (pb.chg h9) fun _ _ q => q); clear h9
  clear yu0 yu1 yu2 yu3 yu4 yu5 yu6 yu7 yu8 yu9 yul yd0 yd1 yd2 yd3 yd4 yd5 yd6 yd7 yd8 yd9 ydl
  go_wp2_with fail
  refine (HGO.out y2).mono ?_
  rintro en y3 ⟨rfl, h9⟩
  have C6 := Lib.hid (HUP.out _ (C2.out.trans (pb.chg h9) fun _ _ q => q)); clear h9
  go_wp2_with fail
  go_ret
  exact ⟨rfl, C6.out⟩
end Go.Proofs.Ytimcpbbcealkiaa

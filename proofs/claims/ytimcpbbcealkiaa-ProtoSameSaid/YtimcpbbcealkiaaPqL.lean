/- proto: the law ProtoSame (chapter 20). -/
import Derived.BigQuiet
import Derived.Deep.CutRange
import Derived.Test.YtimcpbbcealkiaaPqT
import Derived.Test.YtimcpbbcealkiaaPqU
import Derived.Test.YtimcpbbcealkiaaPqV
import Derived.Test.YtimcpbbcealkiaaPqW
import Derived.Test.YtimcpbbcealkiaaPqJ
import Derived.Test.YtimcpbbcealkiaaPqK
namespace Go.Proofs.Ytimcpbbcealkiaa
open Go.RowKit
set_option maxRecDepth 20000
set_option maxHeartbeats 8000000 in
theorem law20.same (a : PReq) (Aan : Option Addr) (can : Nat) (Aad : Option Addr) (cad : Nat) (b : PReq) (Abn : Option Addr) (cbn : Nat) (Abd : Option Addr) (cbd : Nat) (c : PAns) (Acn : Option Addr) (ccn : Nat) (Acm : Option Addr) (ccm : Nat) (Acd : Option Addr) (ccd : Nat) (d : PAns) (Adn : Option Addr) (cdn : Nat) (Adm : Option Addr) (cdm : Nat) (Add : Option Addr) (cdd : Nat) (w : World) (ha : ReqV w Aan can Aad cad a) (hb : ReqV w Abn cbn Abd cbd b) (hc : AnsV w Acn ccn Acm ccm Acd ccd c) (hd : AnsV w Adn cdn Adm cdm Add cdd d) :
    Calls Try.prog 6 #[.agg (a.cells Aan can Aad cad), .agg (b.cells Abn cbn Abd cbd), .agg (c.cells Acn ccn Acm ccm Acd ccd), .agg (d.cells Adn cdn Adm cdm Add cdd)] w fun e w' => e = .returned (.bool true) ∧ Below w.heap.size w w' := by
  have ka := fun wx (h : Below w.heap.size w wx) => alike.req_any a Aan can Aad cad wx (ha.below h (Nat.le_refl _))
  have kb := fun wx (h : Below w.heap.size w wx) => alike.req_any b Abn cbn Abd cbd wx (hb.below h (Nat.le_refl _))
  have kc := fun wx (h : Below w.heap.size w wx) => law20.answer_any c Acn ccn Acm ccm Acd ccd wx (hc.below h (Nat.le_refl _))
  have kd := fun wx (h : Below w.heap.size w wx) => law20.answer_any d Adn cdn Adm cdm Add cdd wx (hd.below h (Nat.le_refl _))
  have s1 := fun wx (h : Below w.heap.size w wx) => pq.same_any a b Aan can Aad cad Abn cbn Abd cbd wx (ha.below h (Nat.le_refl _)) (hb.below h (Nat.le_refl _))
  have s2 := fun wx (h : Below w.heap.size w wx) => pq.refsame_any a b Aan can Aad cad Abn cbn Abd cbd wx (ha.below h (Nat.le_refl _)) (hb.below h (Nat.le_refl _))
  have s3 := fun wx (h : Below w.heap.size w wx) => pq.alike_any c d Acn ccn Acm ccm Acd ccd Adn cdn Adm cdm Add cdd wx (hc.below h (Nat.le_refl _)) (hd.below h (Nat.le_refl _))
  have s4 := fun wx (h : Below w.heap.size w wx) => pq.refalike_any c d Acn ccn Acm ccm Acd ccd Adn cdn Adm cdm Add cdd wx (hc.below h (Nat.le_refl _)) (hd.below h (Nat.le_refl _))
  clear ha hb hc hd
  obtain ⟨S1, hS1⟩ : ∃ S, S = decide (a.Same b) := ⟨_, rfl⟩
  obtain ⟨S2, hS2⟩ : ∃ S, S = decide (c.Same d) := ⟨_, rfl⟩
  rw [← hS1] at s1 s2
  rw [← hS2] at s3 s4
  clear hS1 hS2
  unfold PReq.cells at ka kb s1 s2 ⊢
  unfold PAns.cells at kc kd s3 s4 ⊢
  obtain ⟨b0, hb0⟩ : ∃ b, b = w.heap.size := ⟨_, rfl⟩
  obtain ⟨w4, hw4⟩ : ∃ w4, w4 = (((w.alloc (.cells #[.int .i64 a.kind, .int .i64 a.corr, .string a.client, .string a.topic, .int .i64 a.part, .int .i64 a.off, .int .i64 a.time, .int .i64 a.most, .string a.group, .string a.member, .int .i64 a.gen, .slice Aan a.names.length can, .slice Aad a.data.length cad] 25)).alloc (.cells #[.int .i64 b.kind, .int .i64 b.corr, .string b.client, .string b.topic, .int .i64 b.part, .int .i64 b.off, .int .i64 b.time, .int .i64 b.most, .string b.group, .string b.member, .int .i64 b.gen, .slice Abn b.names.length cbn, .slice Abd b.data.length cbd] 25)).alloc (.cells #[.int .i64 c.corr, .int .i64 c.code, .int .i64 c.off, .int .i64 c.last, .int .i64 c.gen, .string c.member, .string c.leader, .slice Acn c.names.length ccn, .slice Acm c.nums.length ccm, .slice Acd c.data.length ccd] 41)).alloc (.cells #[.int .i64 d.corr, .int .i64 d.code, .int .i64 d.off, .int .i64 d.last, .int .i64 d.gen, .string d.member, .string d.leader, .slice Adn d.names.length cdn, .slice Adm d.nums.length cdm, .slice Add d.data.length cdd] 41) := ⟨_, rfl⟩
  have hbk : Blk w4 (b0) 25 #[.int .i64 a.kind, .int .i64 a.corr, .string a.client, .string a.topic, .int .i64 a.part, .int .i64 a.off, .int .i64 a.time, .int .i64 a.most, .string a.group, .string a.member, .int .i64 a.gen, .slice Aan a.names.length can, .slice Aad a.data.length cad] ∧ Blk w4 (b0 + 1) 25 #[.int .i64 b.kind, .int .i64 b.corr, .string b.client, .string b.topic, .int .i64 b.part, .int .i64 b.off, .int .i64 b.time, .int .i64 b.most, .string b.group, .string b.member, .int .i64 b.gen, .slice Abn b.names.length cbn, .slice Abd b.data.length cbd] ∧ Blk w4 (b0 + 1 + 1) 41 #[.int .i64 c.corr, .int .i64 c.code, .int .i64 c.off, .int .i64 c.last, .int .i64 c.gen, .string c.member, .string c.leader, .slice Acn c.names.length ccn, .slice Acm c.nums.length ccm, .slice Acd c.data.length ccd] ∧ Blk w4 (b0 + 1 + 1 + 1) 41 #[.int .i64 d.corr, .int .i64 d.code, .int .i64 d.off, .int .i64 d.last, .int .i64 d.gen, .string d.member, .string d.leader, .slice Adn d.names.length cdn, .slice Adm d.nums.length cdm, .slice Add d.data.length cdd] ∧ Below w.heap.size w w4 := by
    rw [hw4, hb0]
    have q1 := Blk.new w 25 #[.int .i64 a.kind, .int .i64 a.corr, .string a.client, .string a.topic, .int .i64 a.part, .int .i64 a.off, .int .i64 a.time, .int .i64 a.most, .string a.group, .string a.member, .int .i64 a.gen, .slice Aan a.names.length can, .slice Aad a.data.length cad]
    have g1 := Chg.alloc w (.cells #[.int .i64 a.kind, .int .i64 a.corr, .string a.client, .string a.topic, .int .i64 a.part, .int .i64 a.off, .int .i64 a.time, .int .i64 a.most, .string a.group, .string a.member, .int .i64 a.gen, .slice Aan a.names.length can, .slice Aad a.data.length cad] 25) (fun _ => False)
    have z1 := World.size_alloc w (.cells #[.int .i64 a.kind, .int .i64 a.corr, .string a.client, .string a.topic, .int .i64 a.part, .int .i64 a.off, .int .i64 a.time, .int .i64 a.most, .string a.group, .string a.member, .int .i64 a.gen, .slice Aan a.names.length can, .slice Aad a.data.length cad] 25)
    generalize w.alloc (.cells #[.int .i64 a.kind, .int .i64 a.corr, .string a.client, .string a.topic, .int .i64 a.part, .int .i64 a.off, .int .i64 a.time, .int .i64 a.most, .string a.group, .string a.member, .int .i64 a.gen, .slice Aan a.names.length can, .slice Aad a.data.length cad] 25) = w1 at *
    have q2 := Blk.new w1 25 #[.int .i64 b.kind, .int .i64 b.corr, .string b.client, .string b.topic, .int .i64 b.part, .int .i64 b.off, .int .i64 b.time, .int .i64 b.most, .string b.group, .string b.member, .int .i64 b.gen, .slice Abn b.names.length cbn, .slice Abd b.data.length cbd]
    have g2 := Chg.alloc w1 (.cells #[.int .i64 b.kind, .int .i64 b.corr, .string b.client, .string b.topic, .int .i64 b.part, .int .i64 b.off, .int .i64 b.time, .int .i64 b.most, .string b.group, .string b.member, .int .i64 b.gen, .slice Abn b.names.length cbn, .slice Abd b.data.length cbd] 25) (fun _ => False)
    have z2 := World.size_alloc w1 (.cells #[.int .i64 b.kind, .int .i64 b.corr, .string b.client, .string b.topic, .int .i64 b.part, .int .i64 b.off, .int .i64 b.time, .int .i64 b.most, .string b.group, .string b.member, .int .i64 b.gen, .slice Abn b.names.length cbn, .slice Abd b.data.length cbd] 25)
    generalize w1.alloc (.cells #[.int .i64 b.kind, .int .i64 b.corr, .string b.client, .string b.topic, .int .i64 b.part, .int .i64 b.off, .int .i64 b.time, .int .i64 b.most, .string b.group, .string b.member, .int .i64 b.gen, .slice Abn b.names.length cbn, .slice Abd b.data.length cbd] 25) = w2 at *
    have q3 := Blk.new w2 41 #[.int .i64 c.corr, .int .i64 c.code, .int .i64 c.off, .int .i64 c.last, .int .i64 c.gen, .string c.member, .string c.leader, .slice Acn c.names.length ccn, .slice Acm c.nums.length ccm, .slice Acd c.data.length ccd]
    have g3 := Chg.alloc w2 (.cells #[.int .i64 c.corr, .int .i64 c.code, .int .i64 c.off, .int .i64 c.last, .int .i64 c.gen, .string c.member, .string c.leader, .slice Acn c.names.length ccn, .slice Acm c.nums.length ccm, .slice Acd c.data.length ccd] 41) (fun _ => False)
    have z3 := World.size_alloc w2 (.cells #[.int .i64 c.corr, .int .i64 c.code, .int .i64 c.off, .int .i64 c.last, .int .i64 c.gen, .string c.member, .string c.leader, .slice Acn c.names.length ccn, .slice Acm c.nums.length ccm, .slice Acd c.data.length ccd] 41)
    generalize w2.alloc (.cells #[.int .i64 c.corr, .int .i64 c.code, .int .i64 c.off, .int .i64 c.last, .int .i64 c.gen, .string c.member, .string c.leader, .slice Acn c.names.length ccn, .slice Acm c.nums.length ccm, .slice Acd c.data.length ccd] 41) = w3 at *
    have q4 := Blk.new w3 41 #[.int .i64 d.corr, .int .i64 d.code, .int .i64 d.off, .int .i64 d.last, .int .i64 d.gen, .string d.member, .string d.leader, .slice Adn d.names.length cdn, .slice Adm d.nums.length cdm, .slice Add d.data.length cdd]
    have g4 := Chg.alloc w3 (.cells #[.int .i64 d.corr, .int .i64 d.code, .int .i64 d.off, .int .i64 d.last, .int .i64 d.gen, .string d.member, .string d.leader, .slice Adn d.names.length cdn, .slice Adm d.nums.length cdm, .slice Add d.data.length cdd] 41) (fun _ => False)
    generalize w3.alloc (.cells #[.int .i64 d.corr, .int .i64 d.code, .int .i64 d.off, .int .i64 d.last, .int .i64 d.gen, .string d.member, .string d.leader, .slice Adn d.names.length cdn, .slice Adm d.nums.length cdm, .slice Add d.data.length cdd] 41) = w4' at *
    rw [z1] at q2
    rw [z2, z1] at q3
    rw [z3, z2, z1] at q4
    exact ⟨g4.blk (g3.blk (g2.blk q1 fun q => q) fun q => q) fun q => q, g4.blk (g3.blk q2 fun q => q) fun q => q, g4.blk q3 fun q => q, q4, (((g1.trans g2 fun _ _ q => q).trans g3 fun _ _ q => q).trans g4 fun _ _ q => q).below (Nat.le_refl _) fun _ q => q.elim⟩
  have HB := Lib.hid hbk; clear hbk
  have hup : ∀ wx, Chg w4 wx (fun _ => False) → Below w.heap.size w wx := fun wx h => HB.out.2.2.2.2.trans (h.below HB.out.2.2.2.2.size fun _ q => q.elim)
  have HUP := Lib.hid hup; clear hup
  have H := Lib.hid (And.intro ka (And.intro kb (And.intro kc (And.intro kd (And.intro s1 (And.intro s2 (And.intro s3 s4))))))); clear ka kb kc kd s1 s2 s3 s4
  go_enter Try.func6, Try.ntmps6
  go_upto_region 1 with fail
  rw [← hw4, ← hb0]
  clear hw4 hb0
  have za0 : ∀ x : Later w4 (fun _ => False), x.1.cell? ⟨b0, 0, none⟩ = some (.int .i64 a.kind) := fun x => (x.2.blk HB.out.1 fun q => q).cell 0 rfl
  have za1 : ∀ x : Later w4 (fun _ => False), x.1.cell? ⟨b0, 1, none⟩ = some (.int .i64 a.corr) := fun x => (x.2.blk HB.out.1 fun q => q).cell 1 rfl
  have za2 : ∀ x : Later w4 (fun _ => False), x.1.cell? ⟨b0, 2, none⟩ = some (.string a.client) := fun x => (x.2.blk HB.out.1 fun q => q).cell 2 rfl
  have za3 : ∀ x : Later w4 (fun _ => False), x.1.cell? ⟨b0, 3, none⟩ = some (.string a.topic) := fun x => (x.2.blk HB.out.1 fun q => q).cell 3 rfl
  have za4 : ∀ x : Later w4 (fun _ => False), x.1.cell? ⟨b0, 4, none⟩ = some (.int .i64 a.part) := fun x => (x.2.blk HB.out.1 fun q => q).cell 4 rfl
  have za5 : ∀ x : Later w4 (fun _ => False), x.1.cell? ⟨b0, 5, none⟩ = some (.int .i64 a.off) := fun x => (x.2.blk HB.out.1 fun q => q).cell 5 rfl
  have za6 : ∀ x : Later w4 (fun _ => False), x.1.cell? ⟨b0, 6, none⟩ = some (.int .i64 a.time) := fun x => (x.2.blk HB.out.1 fun q => q).cell 6 rfl
  have za7 : ∀ x : Later w4 (fun _ => False), x.1.cell? ⟨b0, 7, none⟩ = some (.int .i64 a.most) := fun x => (x.2.blk HB.out.1 fun q => q).cell 7 rfl
  have za8 : ∀ x : Later w4 (fun _ => False), x.1.cell? ⟨b0, 8, none⟩ = some (.string a.group) := fun x => (x.2.blk HB.out.1 fun q => q).cell 8 rfl
  have za9 : ∀ x : Later w4 (fun _ => False), x.1.cell? ⟨b0, 9, none⟩ = some (.string a.member) := fun x => (x.2.blk HB.out.1 fun q => q).cell 9 rfl
  have za10 : ∀ x : Later w4 (fun _ => False), x.1.cell? ⟨b0, 10, none⟩ = some (.int .i64 a.gen) := fun x => (x.2.blk HB.out.1 fun q => q).cell 10 rfl
  have za11 : ∀ x : Later w4 (fun _ => False), x.1.cell? ⟨b0, 11, none⟩ = some (.slice Aan a.names.length can) := fun x => (x.2.blk HB.out.1 fun q => q).cell 11 rfl
  have za12 : ∀ x : Later w4 (fun _ => False), x.1.cell? ⟨b0, 12, none⟩ = some (.slice Aad a.data.length cad) := fun x => (x.2.blk HB.out.1 fun q => q).cell 12 rfl
  have zla : ∀ x : Later w4 (fun _ => False), b0 < x.1.heap.size := fun x => (x.2.blk HB.out.1 fun q => q).lt
  have zb0 : ∀ x : Later w4 (fun _ => False), x.1.cell? ⟨b0 + 1, 0, none⟩ = some (.int .i64 b.kind) := fun x => (x.2.blk HB.out.2.1 fun q => q).cell 0 rfl
  have zb1 : ∀ x : Later w4 (fun _ => False), x.1.cell? ⟨b0 + 1, 1, none⟩ = some (.int .i64 b.corr) := fun x => (x.2.blk HB.out.2.1 fun q => q).cell 1 rfl
  have zb2 : ∀ x : Later w4 (fun _ => False), x.1.cell? ⟨b0 + 1, 2, none⟩ = some (.string b.client) := fun x => (x.2.blk HB.out.2.1 fun q => q).cell 2 rfl
  have zb3 : ∀ x : Later w4 (fun _ => False), x.1.cell? ⟨b0 + 1, 3, none⟩ = some (.string b.topic) := fun x => (x.2.blk HB.out.2.1 fun q => q).cell 3 rfl
  have zb4 : ∀ x : Later w4 (fun _ => False), x.1.cell? ⟨b0 + 1, 4, none⟩ = some (.int .i64 b.part) := fun x => (x.2.blk HB.out.2.1 fun q => q).cell 4 rfl
  have zb5 : ∀ x : Later w4 (fun _ => False), x.1.cell? ⟨b0 + 1, 5, none⟩ = some (.int .i64 b.off) := fun x => (x.2.blk HB.out.2.1 fun q => q).cell 5 rfl
  have zb6 : ∀ x : Later w4 (fun _ => False), x.1.cell? ⟨b0 + 1, 6, none⟩ = some (.int .i64 b.time) := fun x => (x.2.blk HB.out.2.1 fun q => q).cell 6 rfl
  have zb7 : ∀ x : Later w4 (fun _ => False), x.1.cell? ⟨b0 + 1, 7, none⟩ = some (.int .i64 b.most) := fun x => (x.2.blk HB.out.2.1 fun q => q).cell 7 rfl
  have zb8 : ∀ x : Later w4 (fun _ => False), x.1.cell? ⟨b0 + 1, 8, none⟩ = some (.string b.group) := fun x => (x.2.blk HB.out.2.1 fun q => q).cell 8 rfl
  have zb9 : ∀ x : Later w4 (fun _ => False), x.1.cell? ⟨b0 + 1, 9, none⟩ = some (.string b.member) := fun x => (x.2.blk HB.out.2.1 fun q => q).cell 9 rfl
  have zb10 : ∀ x : Later w4 (fun _ => False), x.1.cell? ⟨b0 + 1, 10, none⟩ = some (.int .i64 b.gen) := fun x => (x.2.blk HB.out.2.1 fun q => q).cell 10 rfl
  have zb11 : ∀ x : Later w4 (fun _ => False), x.1.cell? ⟨b0 + 1, 11, none⟩ = some (.slice Abn b.names.length cbn) := fun x => (x.2.blk HB.out.2.1 fun q => q).cell 11 rfl
  have zb12 : ∀ x : Later w4 (fun _ => False), x.1.cell? ⟨b0 + 1, 12, none⟩ = some (.slice Abd b.data.length cbd) := fun x => (x.2.blk HB.out.2.1 fun q => q).cell 12 rfl
  have zlb : ∀ x : Later w4 (fun _ => False), b0 + 1 < x.1.heap.size := fun x => (x.2.blk HB.out.2.1 fun q => q).lt
  have zc0 : ∀ x : Later w4 (fun _ => False), x.1.cell? ⟨b0 + 1 + 1, 0, none⟩ = some (.int .i64 c.corr) := fun x => (x.2.blk HB.out.2.2.1 fun q => q).cell 0 rfl
  have zc1 : ∀ x : Later w4 (fun _ => False), x.1.cell? ⟨b0 + 1 + 1, 1, none⟩ = some (.int .i64 c.code) := fun x => (x.2.blk HB.out.2.2.1 fun q => q).cell 1 rfl
  have zc2 : ∀ x : Later w4 (fun _ => False), x.1.cell? ⟨b0 + 1 + 1, 2, none⟩ = some (.int .i64 c.off) := fun x => (x.2.blk HB.out.2.2.1 fun q => q).cell 2 rfl
  have zc3 : ∀ x : Later w4 (fun _ => False), x.1.cell? ⟨b0 + 1 + 1, 3, none⟩ = some (.int .i64 c.last) := fun x => (x.2.blk HB.out.2.2.1 fun q => q).cell 3 rfl
  have zc4 : ∀ x : Later w4 (fun _ => False), x.1.cell? ⟨b0 + 1 + 1, 4, none⟩ = some (.int .i64 c.gen) := fun x => (x.2.blk HB.out.2.2.1 fun q => q).cell 4 rfl
  have zc5 : ∀ x : Later w4 (fun _ => False), x.1.cell? ⟨b0 + 1 + 1, 5, none⟩ = some (.string c.member) := fun x => (x.2.blk HB.out.2.2.1 fun q => q).cell 5 rfl
  have zc6 : ∀ x : Later w4 (fun _ => False), x.1.cell? ⟨b0 + 1 + 1, 6, none⟩ = some (.string c.leader) := fun x => (x.2.blk HB.out.2.2.1 fun q => q).cell 6 rfl
  have zc7 : ∀ x : Later w4 (fun _ => False), x.1.cell? ⟨b0 + 1 + 1, 7, none⟩ = some (.slice Acn c.names.length ccn) := fun x => (x.2.blk HB.out.2.2.1 fun q => q).cell 7 rfl
  have zc8 : ∀ x : Later w4 (fun _ => False), x.1.cell? ⟨b0 + 1 + 1, 8, none⟩ = some (.slice Acm c.nums.length ccm) := fun x => (x.2.blk HB.out.2.2.1 fun q => q).cell 8 rfl
  have zc9 : ∀ x : Later w4 (fun _ => False), x.1.cell? ⟨b0 + 1 + 1, 9, none⟩ = some (.slice Acd c.data.length ccd) := fun x => (x.2.blk HB.out.2.2.1 fun q => q).cell 9 rfl
  have zlc : ∀ x : Later w4 (fun _ => False), b0 + 1 + 1 < x.1.heap.size := fun x => (x.2.blk HB.out.2.2.1 fun q => q).lt
  have zd0 : ∀ x : Later w4 (fun _ => False), x.1.cell? ⟨b0 + 1 + 1 + 1, 0, none⟩ = some (.int .i64 d.corr) := fun x => (x.2.blk HB.out.2.2.2.1 fun q => q).cell 0 rfl
  have zd1 : ∀ x : Later w4 (fun _ => False), x.1.cell? ⟨b0 + 1 + 1 + 1, 1, none⟩ = some (.int .i64 d.code) := fun x => (x.2.blk HB.out.2.2.2.1 fun q => q).cell 1 rfl
  have zd2 : ∀ x : Later w4 (fun _ => False), x.1.cell? ⟨b0 + 1 + 1 + 1, 2, none⟩ = some (.int .i64 d.off) := fun x => (x.2.blk HB.out.2.2.2.1 fun q => q).cell 2 rfl
  have zd3 : ∀ x : Later w4 (fun _ => False), x.1.cell? ⟨b0 + 1 + 1 + 1, 3, none⟩ = some (.int .i64 d.last) := fun x => (x.2.blk HB.out.2.2.2.1 fun q => q).cell 3 rfl
  have zd4 : ∀ x : Later w4 (fun _ => False), x.1.cell? ⟨b0 + 1 + 1 + 1, 4, none⟩ = some (.int .i64 d.gen) := fun x => (x.2.blk HB.out.2.2.2.1 fun q => q).cell 4 rfl
  have zd5 : ∀ x : Later w4 (fun _ => False), x.1.cell? ⟨b0 + 1 + 1 + 1, 5, none⟩ = some (.string d.member) := fun x => (x.2.blk HB.out.2.2.2.1 fun q => q).cell 5 rfl
  have zd6 : ∀ x : Later w4 (fun _ => False), x.1.cell? ⟨b0 + 1 + 1 + 1, 6, none⟩ = some (.string d.leader) := fun x => (x.2.blk HB.out.2.2.2.1 fun q => q).cell 6 rfl
  have zd7 : ∀ x : Later w4 (fun _ => False), x.1.cell? ⟨b0 + 1 + 1 + 1, 7, none⟩ = some (.slice Adn d.names.length cdn) := fun x => (x.2.blk HB.out.2.2.2.1 fun q => q).cell 7 rfl
  have zd8 : ∀ x : Later w4 (fun _ => False), x.1.cell? ⟨b0 + 1 + 1 + 1, 8, none⟩ = some (.slice Adm d.nums.length cdm) := fun x => (x.2.blk HB.out.2.2.2.1 fun q => q).cell 8 rfl
  have zd9 : ∀ x : Later w4 (fun _ => False), x.1.cell? ⟨b0 + 1 + 1 + 1, 9, none⟩ = some (.slice Add d.data.length cdd) := fun x => (x.2.blk HB.out.2.2.2.1 fun q => q).cell 9 rfl
  have zld : ∀ x : Later w4 (fun _ => False), b0 + 1 + 1 + 1 < x.1.heap.size := fun x => (x.2.blk HB.out.2.2.2.1 fun q => q).lt
  have hS0 : later w4 (fun _ => False) w4.drew := later_of ((Chg.refl _ _).drew)
  have hc0 : Chg w4 w4.drew (fun _ => False) := (Chg.refl _ _).drew
  have C0 := Lib.hid hc0; clear hc0
  refine wp_plan (S := fun w0 => ∃ x : Later w4 (fun _ => False), w0 = x.1) (by kernel_rfl) hS0 ?_
  intro hS' K5 hK5
  have HS := Lib.hid hS'; clear hS' hS0
  refine plan_group [true, false, true, false, true, false, true] [0, 2, 4, 6] 7 (by dsimp only [sel]) (by rfl) rfl (by kernel_rfl) (by kernel_rfl) HS.out ?_
  (repeat go_big_quiet_step (fail)); refine wpQuiet_nil ?_
  refine plan_one [false, true] 1 6 (by dsimp only [sel]) (by rfl) rfl (by kernel_rfl) ?_; intro K10 hK10
  go_wp2_with (go_at_call 8; refine (H.out.1 _ (HUP.out _ C0.out)).mono ?_; rintro en v1 ⟨⟨ta, rfl, hta, -⟩, h9⟩; have C1 := Lib.hid (C0.out.trans (chg_of (P := fun _ => False) h9) fun _ _ q => q); clear h9)
  refine ⟨by first | exact later_of C1.out | exact fun _ => later_of C1.out, ?_⟩
  refine plan_one [false, false, false, true] 3 5 (by dsimp only [sel]) (by rfl) rfl (by kernel_rfl) ?_; intro K11 hK11
  go_wp2_with (go_at_call 8; refine (H.out.2.1 _ (HUP.out _ C1.out)).mono ?_; rintro en v2 ⟨⟨tb, rfl, htb, -⟩, h9⟩; have C2 := Lib.hid (C1.out.trans (chg_of (P := fun _ => False) h9) fun _ _ q => q); clear h9)
  refine ⟨by first | exact later_of C2.out | exact fun _ => later_of C2.out, ?_⟩
  refine plan_one [false, false, false, false, false, true] 5 4 (by dsimp only [sel]) (by rfl) rfl (by kernel_rfl) ?_; intro K12 hK12
  go_wp2_with (go_at_call 16; refine (H.out.2.2.1 _ (HUP.out _ C2.out)).mono ?_; rintro en v3 ⟨⟨tc, rfl, htc, -⟩, h9⟩; have C3 := Lib.hid (C2.out.trans (chg_of (P := fun _ => False) h9) fun _ _ q => q); clear h9)
  refine ⟨by first | exact later_of C3.out | exact fun _ => later_of C3.out, ?_⟩
  refine plan_one [false, false, false, false, false, false, false, true] 7 3 (by dsimp only [sel]) (by rfl) rfl (by kernel_rfl) ?_; intro K13 hK13
  go_wp2_with (go_at_call 16; refine (H.out.2.2.2.1 _ (HUP.out _ C3.out)).mono ?_; rintro en v4 ⟨⟨td, rfl, htd, -⟩, h9⟩; have C4 := Lib.hid (C3.out.trans (chg_of (P := fun _ => False) h9) fun _ _ q => q); clear h9)
  refine ⟨by first | exact later_of C4.out | exact fun _ => later_of C4.out, ?_⟩
  have hsum := alike.sum_any ta (some ⟨v4.heap.size, 0, none⟩) 3 3 [tb, tc, td] (v4.alloc (.cells #[.int .i64 tb, .int .i64 tc, .int .i64 td] 3)) (by omega) (by omega) (by omega) rfl (pq.at_ints v4 [tb, tc, td] 3) (fun x hx => by simp only [List.mem_cons, List.not_mem_nil, or_false] at hx; omega)
  obtain ⟨t, ht⟩ : ∃ t, t = alike.sum ta [tb, tc, td] := ⟨_, rfl⟩
  rw [← ht] at hsum
  clear ht
  refine plan_one [false, false, false, false, false, false, false, false, true] 8 2 (by dsimp only [sel]) (by rfl) rfl (by kernel_rfl) ?_; intro K18 hK18; go_wp2_with fail
  obtain ⟨v5, hv5⟩ : ∃ v5, v5 = v4.alloc (.cells #[.int .i64 tb, .int .i64 tc, .int .i64 td] 3) := ⟨_, rfl⟩
  rw [← hv5] at hsum
  rw [← hv5]
  have hc5 : Chg w4 v5 (fun _ => False) := C4.out.trans (by rw [hv5]; exact Chg.alloc _ _ _) fun _ _ q => q
  have C5 := Lib.hid hc5; clear hc5 hv5
  have HSUM := Lib.hid hsum; clear hsum
  refine ⟨by first | exact later_of C5.out | exact fun _ => later_of C5.out, ?_⟩
  refine plan_one [false, false, false, false, false, false, false, false, false, true] 9 1 (by dsimp only [sel]) (by rfl) rfl (by kernel_rfl) ?_; intro K19 hK19
  go_wp2_with (go_at_call 22; refine HSUM.out.mono ?_; rintro en v5' ⟨rfl, h9⟩; subst h9)
  refine ⟨by first | exact later_of C5.out | exact fun _ => later_of C5.out, ?_⟩
  refine plan_group [false, false, false, false, false, false, false, false, false, false, true] [10] 0 (by dsimp only [sel]) (by rfl) rfl (by kernel_rfl) (by kernel_rfl) (later_of C5.out) ?_
  (repeat go_big_quiet_step (fail)); refine wpQuiet_nil ?_
  refine wp_plan_end (by kernel_rfl) ?_
  refine hK5 _ _ ?_
  clear HS
  have haw : ∀ wx, Below w.heap.size w wx → Calls Try.prog 9 #[] wx fun a w' => a = .returned (.bool true) ∧ Below wx.heap.size wx w' := fun wx _ => law20.awake wx
  have HAX := Lib.hid haw; clear haw
  by_cases hbig : 5000 < t
  · have d0 : decide (5000 < t) = true := decide_eq_true hbig
    clear za0 za1 za2 za3 za4 za5 za6 za7 za8 za9 za10 za11 za12 zla zb0 zb1 zb2 zb3 zb4 zb5 zb6 zb7 zb8 zb9 zb10 zb11 zb12 zlb zc0 zc1 zc2 zc3 zc4 zc5 zc6 zc7 zc8 zc9 zlc zd0 zd1 zd2 zd3 zd4 zd5 zd6 zd7 zd8 zd9 zld
    go_wp2_with (go_at_call 9; refine (HAX.out v5 (HUP.out _ C5.out)).mono ?_; rintro a9 w9 ⟨rfl, h9⟩; have HB9 := Lib.hid ((HUP.out _ C5.out).trans (h9.mono (HUP.out _ C5.out).size)); clear h9)
    go_ret
    exact ⟨rfl, HB9.out⟩
  · have d0 : decide (5000 < t) = false := decide_eq_false hbig
    go_upto_region 3 with fail
    have hc6 : Chg w4 v5.drew (fun _ => False) := C5.out.drew
    have D0 := Lib.hid hc6; clear hc6
    have hS0 : later w4 (fun _ => False) v5.drew := later_of D0.out
    refine wp_plan (S := fun w0 => ∃ x : Later w4 (fun _ => False), w0 = x.1) (by kernel_rfl) hS0 ?_
    intro hS' K6 hK6
    have HS := Lib.hid hS'; clear hS' hS0
    refine plan_group [true, true, false, true, true] [0, 1, 3, 4] 16 (by dsimp only [sel]) (by rfl) rfl (by kernel_rfl) (by kernel_rfl) HS.out ?_
    (repeat go_big_quiet_step (fail)); refine wpQuiet_nil ?_
    refine plan_one [false, false, true] 2 15 (by dsimp only [sel]) (by rfl) rfl (by kernel_rfl) ?_; intro K21 hK21
    go_wp2_with (go_at_call 15; refine (H.out.2.2.2.2.1 _ (HUP.out _ D0.out)).mono ?_; rintro en u1 ⟨rfl, h9⟩; have D1 := Lib.hid (D0.out.trans (chg_of (P := fun _ => False) h9) fun _ _ q => q); clear h9)
    refine ⟨by first | exact later_of D1.out | exact fun _ => later_of D1.out, ?_⟩
    refine plan_one [false, false, false, false, false, true] 5 14 (by dsimp only [sel]) (by rfl) rfl (by kernel_rfl) ?_; intro K22 hK22
    go_wp2_with (go_at_call 14; refine (H.out.2.2.2.2.2.1 _ (HUP.out _ D1.out)).mono ?_; rintro en u2 ⟨rfl, h9⟩; have D2 := Lib.hid (D1.out.trans (chg_of (P := fun _ => False) h9) fun _ _ q => q); clear h9)
    refine ⟨by first | exact later_of D2.out | exact fun _ => later_of D2.out, ?_⟩
    refine plan_group [false, false, false, false, false, false, true, true, true, true, false, true, true] [6, 7, 8, 9, 11, 12] 8 (by dsimp only [sel]) (by rfl) rfl (by kernel_rfl) (by kernel_rfl) (later_of D2.out) ?_
    (repeat go_big_quiet_step (fail)); refine wpQuiet_nil ?_
    refine plan_one [false, false, false, false, false, false, false, false, false, false, true] 10 7 (by dsimp only [sel]) (by rfl) rfl (by kernel_rfl) ?_; intro K23 hK23
    go_wp2_with (go_at_call 20; refine (H.out.2.2.2.2.2.2.1 _ (HUP.out _ D2.out)).mono ?_; rintro en u3 ⟨rfl, h9⟩; have D3 := Lib.hid (D2.out.trans (chg_of (P := fun _ => False) h9) fun _ _ q => q); clear h9)
    refine ⟨by first | exact later_of D3.out | exact fun _ => later_of D3.out, ?_⟩
    refine plan_one [false, false, false, false, false, false, false, false, false, false, false, false, false, true] 13 6 (by dsimp only [sel]) (by rfl) rfl (by kernel_rfl) ?_; intro K24 hK24
    go_wp2_with (go_at_call 21; refine (H.out.2.2.2.2.2.2.2 _ (HUP.out _ D3.out)).mono ?_; rintro en u4 ⟨rfl, h9⟩; have D4 := Lib.hid (D3.out.trans (chg_of (P := fun _ => False) h9) fun _ _ q => q); clear h9)
    refine ⟨by first | exact later_of D4.out | exact fun _ => later_of D4.out, ?_⟩
    refine plan_group [false, false, false, false, false, false, false, false, false, false, false, false, false, false, true, true, true] [14, 15, 16] 3 (by dsimp only [sel]) (by rfl) rfl (by kernel_rfl) (by kernel_rfl) (later_of D4.out) ?_
    (repeat go_big_quiet_step (fail)); refine wpQuiet_nil ?_
    refine plan_one [false, false, false, false, false, false, false, false, false, false, false, false, false, false, false, false, false, true] 17 2 (by dsimp only [sel]) (by rfl) rfl (by kernel_rfl) ?_; intro K25 hK25
    go_wp2_with (go_at_call 9; refine (HAX.out u4 (HUP.out _ D4.out)).mono ?_; rintro a9 u5 ⟨rfl, h9⟩; have D5 := Lib.hid (D4.out.trans (chg_of (P := fun _ => False) h9) fun _ _ q => q); clear h9)
    refine ⟨by first | exact later_of D5.out | exact fun _ => later_of D5.out, ?_⟩
    refine plan_group [false, false, false, false, false, false, false, false, false, false, false, false, false, false, false, false, false, false, true, true] [18, 19] 0 (by dsimp only [sel]) (by rfl) rfl (by kernel_rfl) (by kernel_rfl) (later_of D5.out) ?_
    (repeat go_big_quiet_step (fail)); refine wpQuiet_nil ?_
    refine wp_plan_end (by kernel_rfl) ?_
    refine hK6 _ _ ?_
    clear za0 za1 za2 za3 za4 za5 za6 za7 za8 za9 za10 za11 za12 zla zb0 zb1 zb2 zb3 zb4 zb5 zb6 zb7 zb8 zb9 zb10 zb11 zb12 zlb zc0 zc1 zc2 zc3 zc4 zc5 zc6 zc7 zc8 zc9 zlc zd0 zd1 zd2 zd3 zd4 zd5 zd6 zd7 zd8 zd9 zld
    go_wp2_with fail
    go_ret
    exact ⟨rfl, HUP.out _ D5.out⟩
end Go.Proofs.Ytimcpbbcealkiaa

/- proto: the law ProtoRequests (chapter 20). -/
import Derived.BigQuiet
import Derived.Test.YtimcpbbcealkiaaQcF
import Derived.Test.YtimcpbbcealkiaaPqK
import Derived.Test.YtimcpbbcealkiaaPqJ
import Derived.Test.YtimcpbbcealkiaaPqT
import Derived.Test.YtimcpbbcealkiaaPqU
import Derived.Test.YtimcpbbcealkiaaPqR
namespace Go.Proofs.Ytimcpbbcealkiaa
open Go.RowKit
set_option maxRecDepth 20000
theorem qh.new_row (w : World) (T : TypeId) (z cs : Array Value) : Blk ((w.alloc (.cells z T)).setRow w.heap.size cs) w.heap.size T cs ∧ Chg w ((w.alloc (.cells z T)).setRow w.heap.size cs) (fun _ => False) :=
  ⟨pq.blk_row (Blk.new w T z) _, (Chg.alloc w _ (fun _ => False)).trans (pq.chg_row _ _ _) fun k hk q => absurd hk (by rw [show k = w.heap.size from q]; exact Nat.lt_irrefl _)⟩
theorem qh.chg {w w' : World} (h : Below w.heap.size w w') : Chg w w' (fun _ => False) := chg_of h
theorem qh.same_self (r : PReq) : decide (r.Same r) = true := decide_eq_true ⟨rfl, rfl, rfl, rfl, rfl, rfl, rfl, rfl, rfl, rfl, rfl, rfl, rfl⟩
/-- The request that is told: none where there is an error. -/
def qh.told (R : PReq × Int × Int) : PReq := if R.2.2 = 0 then R.1 else pq.noReq
theorem qh.noV (w : World) : ReqV w none 0 none 0 pq.noReq :=
  ⟨⟨⟨by unfold pq.int pq.noReq; dsimp only; omega, by unfold pq.int pq.noReq; dsimp only; omega, by unfold pq.int pq.noReq; dsimp only; omega, by unfold pq.int pq.noReq; dsimp only; omega, by unfold pq.int pq.noReq; dsimp only; omega, by unfold pq.int pq.noReq; dsimp only; omega, by unfold pq.int pq.noReq; dsimp only; omega⟩, by decide, by decide, by decide, by decide⟩, ⟨none, 0, rfl, At.none0 rfl, Nat.le_refl _, Nat.zero_le _, fun s hs => by cases hs⟩, ⟨none, 0, rfl, At.none0 rfl, Nat.le_refl _, Nat.zero_le _, fun s hs => by cases hs⟩⟩
theorem qh.decode (A : Option Addr) (c : Nat) (L : List Nat) (w : World) (hat : At w A L.length (byteAt L)) (h1 : L.length ≤ c) (h2 : c ≤ maxLen) (hb : ∀ x ∈ L, x < 256) (hL : L.length ≤ 5000) :
    Calls Try.prog 12 #[.slice A L.length c] w fun en w' => ∃ An cn Ad cd, en = .returned (.tuple #[.agg ((qh.told (pq.dec L)).cells An cn Ad cd), .int .i64 (pq.dec L).2.1, .int .i64 (pq.dec L).2.2]) ∧ ReqV w' An cn Ad cd (qh.told (pq.dec L)) ∧ Below w.heap.size w w' := by
  refine (pq.decode_any A c L w hat h1 h2 hb (by omega)).mono ?_
  rintro en w' ⟨⟨cs, rfl, -, q1, q2⟩, q3⟩
  by_cases h : (pq.dec L).2.2 = 0
  · obtain ⟨An, cn, Ad, cd, rfl, q4, -⟩ := q2 h
    unfold qh.told
    rw [if_pos h]
    exact ⟨An, cn, Ad, cd, rfl, q4, q3⟩
  · rw [q1 h]
    unfold qh.told
    rw [if_neg h]
    exact ⟨none, 0, none, 0, rfl, qh.noV w', q3⟩
/-- How the document's error goes with the program's. -/
def qh.Errs (e1 e2 : Int) : Prop := (e2 < 0 ∧ (e1 = 2 ∨ e1 = 3)) ∨ (¬ e2 < 0 ∧ e1 = e2)
theorem qh.refdecode (A : Option Addr) (c : Nat) (L : List Nat) (w : World) (hat : At w A L.length (byteAt L)) (h1 : L.length ≤ c) (h2 : c ≤ maxLen) (hb : ∀ x ∈ L, x < 256) (hL : L.length ≤ 5000) :
    Calls Try.prog 13 #[.slice A L.length c] w fun en w' => ∃ An cn Ad cd e2, en = .returned (.tuple #[.agg ((qh.told (pq.dec L)).cells An cn Ad cd), .int .i64 (pq.dec L).2.1, .int .i64 e2]) ∧ ReqV w' An cn Ad cd (qh.told (pq.dec L)) ∧ qh.Errs (pq.dec L).2.2 e2 ∧ Below w.heap.size w w' := by
  refine (qf.decode_any A c L w hat h1 h2 hb hL).mono ?_
  rintro en w' ⟨cs, e2, rfl, -, q1, q2, q3⟩
  by_cases h : (pq.dec L).2.2 = 0
  · obtain ⟨rfl, An, cn, Ad, cd, rfl, q4⟩ := q1 h
    unfold qh.told
    rw [if_pos h]
    exact ⟨An, cn, Ad, cd, 0, rfl, q4, .inr ⟨by decide, h⟩, q3⟩
  · obtain ⟨rfl, q4⟩ := q2 h
    unfold qh.told
    rw [if_neg h]
    refine ⟨none, 0, none, 0, e2, rfl, qh.noV w', ?_, q3⟩
    rcases q4 with ⟨q5, q6⟩ | ⟨q5, q6⟩
    · exact .inr ⟨by omega, q5.symm⟩
    · exact .inl ⟨by omega, q6⟩
set_option maxHeartbeats 8000000 in
theorem law20.requests (r : PReq) (An : Option Addr) (cn : Nat) (Ad : Option Addr) (cd : Nat) (A0 : Option Addr) (c0 : Nat) (L : List Nat) (w : World) (hr : ReqV w An cn Ad cd r) (hp : BytesV w (.slice A0 L.length c0) L) :
    Calls Try.prog 3 #[.agg (r.cells An cn Ad cd), .slice A0 L.length c0] w fun e w' => e = .returned (.bool true) ∧ Below w.heap.size w w' := by
  obtain ⟨A9, c9, e9, hat, hlc, hcm, hby⟩ := hp
  obtain ⟨rfl, rfl⟩ : A0 = A9 ∧ c0 = c9 := by injection e9 with e1 e2 e3; exact ⟨e1, e3⟩
  clear e9
  have hgo : ∀ wx, Calls Try.prog 9 #[] wx fun e w' => e = .returned (.bool true) ∧ Below wx.heap.size wx w' := law20.awake
  have HGO := Lib.hid hgo; clear hgo
  have ka := fun wx (h : Below w.heap.size w wx) => alike.req_any r An cn Ad cd wx (hr.below h (Nat.le_refl _))
  have ke := fun wx (h : Below w.heap.size w wx) => pq.encode_any r An cn Ad cd wx (hr.below h (Nat.le_refl _))
  have kf := fun wx (h : Below w.heap.size w wx) => qc.encode_any r An cn Ad cd wx (hr.below h (Nat.le_refl _))
  have kd := fun (hL : L.length ≤ 5000) wx (h : Below w.heap.size w wx) => qh.decode A0 c0 L wx (hat.below h (Nat.le_refl _)) hlc hcm hby hL
  have kr := fun (hL : L.length ≤ 5000) wx (h : Below w.heap.size w wx) => qh.refdecode A0 c0 L wx (hat.below h (Nat.le_refl _)) hlc hcm hby hL
  have s1 := fun wx (h : Below w.heap.size w wx) => pq.same_any r r An cn Ad cd An cn Ad cd wx (hr.below h (Nat.le_refl _)) (hr.below h (Nat.le_refl _))
  have s2 := fun wx (Y : PReq) (Dn : Option Addr) jn (Dd : Option Addr) jd (Gn : Option Addr) kn (Gd : Option Addr) kd (h1 : ReqV wx Dn jn Dd jd Y) (h2 : ReqV wx Gn kn Gd kd Y) => pq.refsame_any Y Y Dn jn Dd jd Gn kn Gd kd wx h1 h2
  simp only [qh.same_self] at s1 s2
  obtain ⟨n, hn⟩ : ∃ n, n = L.length := ⟨_, rfl⟩
  obtain ⟨R, hR⟩ : ∃ R, R = pq.dec L := ⟨_, rfl⟩
  rw [← hR] at kd kr
  rw [← hn] at kd kr ⊢
  obtain ⟨Y, hY⟩ : ∃ Y, Y = qh.told R := ⟨_, rfl⟩
  rw [← hY] at kd kr
  obtain ⟨C, hC⟩ : ∃ C, C = R.2.1 := ⟨_, rfl⟩
  obtain ⟨e1, he1⟩ : ∃ e, e = R.2.2 := ⟨_, rfl⟩
  rw [← hC, ← he1] at kd kr
  obtain ⟨K, hK⟩ : ∃ K, K = pq.check r := ⟨_, rfl⟩
  obtain ⟨E, hE⟩ : ∃ E, E = if pq.check r = 0 then pq.bytes r else [] := ⟨_, rfl⟩
  rw [← hE, ← hK] at ke kf
  clear hr hat hlc hcm hby hn hR hY hC he1 hK hE
  unfold PReq.cells at ka ke kf kd kr s1 s2 ⊢
  obtain ⟨b0, hb0⟩ : ∃ b, b = w.heap.size := ⟨_, rfl⟩
  obtain ⟨w1, hw1⟩ : ∃ w1, w1 = w.alloc (.cells #[.int .i64 r.kind, .int .i64 r.corr, .string r.client, .string r.topic, .int .i64 r.part, .int .i64 r.off, .int .i64 r.time, .int .i64 r.most, .string r.group, .string r.member, .int .i64 r.gen, .slice An r.names.length cn, .slice Ad r.data.length cd] 25) := ⟨_, rfl⟩
  have hbk : Blk w1 b0 25 #[.int .i64 r.kind, .int .i64 r.corr, .string r.client, .string r.topic, .int .i64 r.part, .int .i64 r.off, .int .i64 r.time, .int .i64 r.most, .string r.group, .string r.member, .int .i64 r.gen, .slice An r.names.length cn, .slice Ad r.data.length cd] ∧ Below w.heap.size w w1 := by
    rw [hw1, hb0]
    exact ⟨Blk.new _ _ _, (Below.refl _ _).alloc (Nat.le_refl _) _⟩
  have HB := Lib.hid hbk; clear hbk
  have hup : ∀ wx, Chg w1 wx (fun _ => False) → Below w.heap.size w wx := fun wx h => HB.out.2.trans (h.below HB.out.2.size fun _ q => q.elim)
  have HUP := Lib.hid hup; clear hup
  have H := Lib.hid (And.intro ka (And.intro ke (And.intro kf (And.intro kd (And.intro kr (And.intro s1 s2)))))); clear ka ke kf kd kr s1 s2
  go_enter Try.func3, Try.ntmps3
  go_upto_region 1 with fail
  rw [← hw1, ← hb0]
  clear hw1 hb0
  have yu0 : w1.cell? ⟨b0, 0, none⟩ = some (.int .i64 r.kind) := (HB.out.1).cell 0 rfl
  have yu1 : w1.cell? ⟨b0, 1, none⟩ = some (.int .i64 r.corr) := (HB.out.1).cell 1 rfl
  have yu2 : w1.cell? ⟨b0, 2, none⟩ = some (.string r.client) := (HB.out.1).cell 2 rfl
  have yu3 : w1.cell? ⟨b0, 3, none⟩ = some (.string r.topic) := (HB.out.1).cell 3 rfl
  have yu4 : w1.cell? ⟨b0, 4, none⟩ = some (.int .i64 r.part) := (HB.out.1).cell 4 rfl
  have yu5 : w1.cell? ⟨b0, 5, none⟩ = some (.int .i64 r.off) := (HB.out.1).cell 5 rfl
  have yu6 : w1.cell? ⟨b0, 6, none⟩ = some (.int .i64 r.time) := (HB.out.1).cell 6 rfl
  have yu7 : w1.cell? ⟨b0, 7, none⟩ = some (.int .i64 r.most) := (HB.out.1).cell 7 rfl
  have yu8 : w1.cell? ⟨b0, 8, none⟩ = some (.string r.group) := (HB.out.1).cell 8 rfl
  have yu9 : w1.cell? ⟨b0, 9, none⟩ = some (.string r.member) := (HB.out.1).cell 9 rfl
  have yu10 : w1.cell? ⟨b0, 10, none⟩ = some (.int .i64 r.gen) := (HB.out.1).cell 10 rfl
  have yu11 : w1.cell? ⟨b0, 11, none⟩ = some (.slice An r.names.length cn) := (HB.out.1).cell 11 rfl
  have yu12 : w1.cell? ⟨b0, 12, none⟩ = some (.slice Ad r.data.length cd) := (HB.out.1).cell 12 rfl
  have yul : b0 < w1.heap.size := (HB.out.1).lt
  go_wp2_with fail
  refine (H.out.1 w1 HB.out.2).mono ?_
  rintro en w3 ⟨⟨ta, rfl, hta, -⟩, h9⟩
  have C3 := Lib.hid (qh.chg h9); clear h9
  clear yu0 yu1 yu2 yu3 yu4 yu5 yu6 yu7 yu8 yu9 yu10 yu11 yu12 yul
  by_cases hbig : 5000 < ta
  · have d0 : decide (5000 < ta) = true := decide_eq_true hbig
    go_wp2_with fail
    refine (HGO.out w3).mono ?_
    rintro en w4 ⟨rfl, h9⟩
    have C4 := Lib.hid (HUP.out _ (C3.out.trans (qh.chg h9) fun _ _ q => q)); clear h9
    go_wp2_with fail
    go_ret
    exact ⟨rfl, C4.out⟩
  have d0 : decide (5000 < ta) = false := decide_eq_false hbig
  clear hbig
  by_cases hbig : 5000 < n
  · have d1 : decide (5000 < n) = true := decide_eq_true hbig
    have d1' : decide (5000 < (n : Int)) = true := decide_eq_true (by omega)
    go_wp2_with fail
    refine (HGO.out w3).mono ?_
    rintro en w4 ⟨rfl, h9⟩
    have C4 := Lib.hid (HUP.out _ (C3.out.trans (qh.chg h9) fun _ _ q => q)); clear h9
    go_wp2_with fail
    go_ret
    exact ⟨rfl, C4.out⟩
  have d1 : decide (5000 < n) = false := decide_eq_false hbig
  have d1' : decide (5000 < (n : Int)) = false := decide_eq_false (by omega)
  have hn5 : n ≤ 5000 := by omega
  clear hbig
  have yu0 : w3.cell? ⟨b0, 0, none⟩ = some (.int .i64 r.kind) := (C3.out.blk HB.out.1 fun q => q).cell 0 rfl
  have yu1 : w3.cell? ⟨b0, 1, none⟩ = some (.int .i64 r.corr) := (C3.out.blk HB.out.1 fun q => q).cell 1 rfl
  have yu2 : w3.cell? ⟨b0, 2, none⟩ = some (.string r.client) := (C3.out.blk HB.out.1 fun q => q).cell 2 rfl
  have yu3 : w3.cell? ⟨b0, 3, none⟩ = some (.string r.topic) := (C3.out.blk HB.out.1 fun q => q).cell 3 rfl
  have yu4 : w3.cell? ⟨b0, 4, none⟩ = some (.int .i64 r.part) := (C3.out.blk HB.out.1 fun q => q).cell 4 rfl
  have yu5 : w3.cell? ⟨b0, 5, none⟩ = some (.int .i64 r.off) := (C3.out.blk HB.out.1 fun q => q).cell 5 rfl
  have yu6 : w3.cell? ⟨b0, 6, none⟩ = some (.int .i64 r.time) := (C3.out.blk HB.out.1 fun q => q).cell 6 rfl
  have yu7 : w3.cell? ⟨b0, 7, none⟩ = some (.int .i64 r.most) := (C3.out.blk HB.out.1 fun q => q).cell 7 rfl
  have yu8 : w3.cell? ⟨b0, 8, none⟩ = some (.string r.group) := (C3.out.blk HB.out.1 fun q => q).cell 8 rfl
  have yu9 : w3.cell? ⟨b0, 9, none⟩ = some (.string r.member) := (C3.out.blk HB.out.1 fun q => q).cell 9 rfl
  have yu10 : w3.cell? ⟨b0, 10, none⟩ = some (.int .i64 r.gen) := (C3.out.blk HB.out.1 fun q => q).cell 10 rfl
  have yu11 : w3.cell? ⟨b0, 11, none⟩ = some (.slice An r.names.length cn) := (C3.out.blk HB.out.1 fun q => q).cell 11 rfl
  have yu12 : w3.cell? ⟨b0, 12, none⟩ = some (.slice Ad r.data.length cd) := (C3.out.blk HB.out.1 fun q => q).cell 12 rfl
  have yul : b0 < w3.heap.size := (C3.out.blk HB.out.1 fun q => q).lt
  go_upto_region 4 with (go_at_call 10; refine (H.out.2.1 w3 (HUP.out _ C3.out)).mono ?_; rintro en w4 ⟨⟨v4, rfl, h8⟩, h9⟩; obtain ⟨A4, c4, rfl, -, -⟩ := own_at h8; obtain ⟨m4, hm4⟩ : ∃ m, m = E.length := ⟨_, rfl⟩; have h7 := (own_bytes h8); have HA4 := Lib.hid (And.intro h8 hm4); rw [← hm4]; have C4 := Lib.hid (C3.out.trans (qh.chg h9) fun _ _ q => q); clear h9 h8 h7 hm4)
  clear yu0 yu1 yu2 yu3 yu4 yu5 yu6 yu7 yu8 yu9 yu10 yu11 yu12 yul
  have yu0 : w4.cell? ⟨b0, 0, none⟩ = some (.int .i64 r.kind) := (C4.out.blk HB.out.1 fun q => q).cell 0 rfl
  have yu1 : w4.cell? ⟨b0, 1, none⟩ = some (.int .i64 r.corr) := (C4.out.blk HB.out.1 fun q => q).cell 1 rfl
  have yu2 : w4.cell? ⟨b0, 2, none⟩ = some (.string r.client) := (C4.out.blk HB.out.1 fun q => q).cell 2 rfl
  have yu3 : w4.cell? ⟨b0, 3, none⟩ = some (.string r.topic) := (C4.out.blk HB.out.1 fun q => q).cell 3 rfl
  have yu4 : w4.cell? ⟨b0, 4, none⟩ = some (.int .i64 r.part) := (C4.out.blk HB.out.1 fun q => q).cell 4 rfl
  have yu5 : w4.cell? ⟨b0, 5, none⟩ = some (.int .i64 r.off) := (C4.out.blk HB.out.1 fun q => q).cell 5 rfl
  have yu6 : w4.cell? ⟨b0, 6, none⟩ = some (.int .i64 r.time) := (C4.out.blk HB.out.1 fun q => q).cell 6 rfl
  have yu7 : w4.cell? ⟨b0, 7, none⟩ = some (.int .i64 r.most) := (C4.out.blk HB.out.1 fun q => q).cell 7 rfl
  have yu8 : w4.cell? ⟨b0, 8, none⟩ = some (.string r.group) := (C4.out.blk HB.out.1 fun q => q).cell 8 rfl
  have yu9 : w4.cell? ⟨b0, 9, none⟩ = some (.string r.member) := (C4.out.blk HB.out.1 fun q => q).cell 9 rfl
  have yu10 : w4.cell? ⟨b0, 10, none⟩ = some (.int .i64 r.gen) := (C4.out.blk HB.out.1 fun q => q).cell 10 rfl
  have yu11 : w4.cell? ⟨b0, 11, none⟩ = some (.slice An r.names.length cn) := (C4.out.blk HB.out.1 fun q => q).cell 11 rfl
  have yu12 : w4.cell? ⟨b0, 12, none⟩ = some (.slice Ad r.data.length cd) := (C4.out.blk HB.out.1 fun q => q).cell 12 rfl
  have yul : b0 < w4.heap.size := (C4.out.blk HB.out.1 fun q => q).lt
  go_upto_region 5 with (go_at_call 11; refine (H.out.2.2.1 w4 (HUP.out _ C4.out)).mono ?_; rintro en w5 ⟨v5, rfl, h8⟩; obtain ⟨A5, c5, rfl, hc5, hat5⟩ := h8.at'; obtain ⟨m5, hm5⟩ : ∃ m, m = E.length := ⟨_, rfl⟩; rw [← hm5] at hat5; have HA5 := Lib.hid (And.intro hat5 hm5); rw [← hm5]; have C45 := Lib.hid (qh.chg h8.2); clear h8 hm5 hat5 hc5)
  clear yu0 yu1 yu2 yu3 yu4 yu5 yu6 yu7 yu8 yu9 yu10 yu11 yu12 yul
  have C5 := Lib.hid (C4.out.trans C45.out fun _ _ q => q)
  have hat4 : At w4 A4 m4 (byteAt E) := by
    obtain ⟨A9, c9, e9, -, -, h⟩ := own_bytes HA4.out.1
    obtain ⟨rfl, rfl⟩ : A4 = A9 ∧ c4 = c9 := by injection e9 with e1 e2 e3; exact ⟨e1, e3⟩
    rw [HA4.out.2]
    exact h
  have HAT4 := Lib.hid (C45.out.at' hat4 fun _ _ _ _ q => q); clear hat4
  go_upto_region 6 with (first
    | (show Go.wpList _ _ _ (⟨_, .store _ (.tmp 9) (.tmp 37), _, _, _, _⟩ :: _) _ _; refine wpList_store_row rfl 25 (.tmp 9) (.tmp 37) rfl w6.heap.size #[.int .i64 Y.kind, .int .i64 Y.corr, .string Y.client, .string Y.topic, .int .i64 Y.part, .int .i64 Y.off, .int .i64 Y.time, .int .i64 Y.most, .string Y.group, .string Y.member, .int .i64 Y.gen, .slice Dn Y.names.length jn, .slice Dd Y.data.length jd] rfl rfl 25 pq.zero (Blk.new w6 25 pq.zero) pq.infoReq rfl (by simp [Value.oneCell']) ?_)
    | (go_at_call 12; refine (H.out.2.2.2.1 hn5 w5 (HUP.out _ C5.out)).mono ?_; rintro en w6 ⟨Dn, jn, Dd, jd, rfl, h1, h2⟩; have H6 := Lib.hid (And.intro h1 (qh.chg h2)); clear h1 h2))
  obtain ⟨w7, hw7⟩ : ∃ w7, w7 = (w6.alloc (.cells #[.int .i64 0, .int .i64 0, .string (ByteArray.mk #[]), .string (ByteArray.mk #[]), .int .i64 0, .int .i64 0, .int .i64 0, .int .i64 0, .string (ByteArray.mk #[]), .string (ByteArray.mk #[]), .int .i64 0, .slice none 0 0, .slice none 0 0] 25)).setRow w6.heap.size #[.int .i64 Y.kind, .int .i64 Y.corr, .string Y.client, .string Y.topic, .int .i64 Y.part, .int .i64 Y.off, .int .i64 Y.time, .int .i64 Y.most, .string Y.group, .string Y.member, .int .i64 Y.gen, .slice Dn Y.names.length jn, .slice Dd Y.data.length jd] := ⟨_, rfl⟩
  obtain ⟨b6, hb6⟩ : ∃ b, b = w6.heap.size := ⟨_, rfl⟩
  rw [← hw7, ← hb6]
  have hN := qh.new_row w6 25 pq.zero #[.int .i64 Y.kind, .int .i64 Y.corr, .string Y.client, .string Y.topic, .int .i64 Y.part, .int .i64 Y.off, .int .i64 Y.time, .int .i64 Y.most, .string Y.group, .string Y.member, .int .i64 Y.gen, .slice Dn Y.names.length jn, .slice Dd Y.data.length jd]
  unfold pq.zero at hN
  rw [← hw7, ← hb6] at hN
  clear hw7 hb6
  have C57 := Lib.hid (H6.out.2.trans hN.2 fun _ _ q => q)
  have H7 := Lib.hid (And.intro hN.1 (H6.out.1.below (hN.2.below (Nat.le_refl _) fun _ q => q.elim) (Nat.le_refl _))); clear hN H6
  have C7 := Lib.hid (C5.out.trans C57.out fun _ _ q => q)
  go_upto_region 7 with (first
    | (show Go.wpList _ _ _ (⟨_, .store _ (.tmp 12) (.tmp 43), _, _, _, _⟩ :: _) _ _; refine wpList_store_row rfl 25 (.tmp 12) (.tmp 43) rfl w8.heap.size #[.int .i64 Y.kind, .int .i64 Y.corr, .string Y.client, .string Y.topic, .int .i64 Y.part, .int .i64 Y.off, .int .i64 Y.time, .int .i64 Y.most, .string Y.group, .string Y.member, .int .i64 Y.gen, .slice Gn Y.names.length kn, .slice Gd Y.data.length kd] rfl rfl 25 pq.zero (Blk.new w8 25 pq.zero) pq.infoReq rfl (by simp [Value.oneCell']) ?_)
    | (go_at_call 13; refine (H.out.2.2.2.2.1 hn5 w7 (HUP.out _ C7.out)).mono ?_; rintro en w8 ⟨Gn, kn, Gd, kd, e2, rfl, h1, h3, h2⟩; have H8 := Lib.hid (And.intro h1 (And.intro h3 (qh.chg h2))); clear h1 h2 h3))
  obtain ⟨w9, hw9⟩ : ∃ w9, w9 = (w8.alloc (.cells #[.int .i64 0, .int .i64 0, .string (ByteArray.mk #[]), .string (ByteArray.mk #[]), .int .i64 0, .int .i64 0, .int .i64 0, .int .i64 0, .string (ByteArray.mk #[]), .string (ByteArray.mk #[]), .int .i64 0, .slice none 0 0, .slice none 0 0] 25)).setRow w8.heap.size #[.int .i64 Y.kind, .int .i64 Y.corr, .string Y.client, .string Y.topic, .int .i64 Y.part, .int .i64 Y.off, .int .i64 Y.time, .int .i64 Y.most, .string Y.group, .string Y.member, .int .i64 Y.gen, .slice Gn Y.names.length kn, .slice Gd Y.data.length kd] := ⟨_, rfl⟩
  obtain ⟨b8, hb8⟩ : ∃ b, b = w8.heap.size := ⟨_, rfl⟩
  rw [← hw9, ← hb8]
  have hN := qh.new_row w8 25 pq.zero #[.int .i64 Y.kind, .int .i64 Y.corr, .string Y.client, .string Y.topic, .int .i64 Y.part, .int .i64 Y.off, .int .i64 Y.time, .int .i64 Y.most, .string Y.group, .string Y.member, .int .i64 Y.gen, .slice Gn Y.names.length kn, .slice Gd Y.data.length kd]
  unfold pq.zero at hN
  rw [← hw9, ← hb8] at hN
  clear hw9 hb8
  have C79 := Lib.hid (H8.out.2.2.trans hN.2 fun _ _ q => q)
  have H9 := Lib.hid (And.intro hN.1 (H8.out.1.below (hN.2.below (Nat.le_refl _) fun _ q => q.elim) (Nat.le_refl _))); clear hN
  have C9 := Lib.hid (C7.out.trans C79.out fun _ _ q => q)
  have C59 := Lib.hid (C57.out.trans C79.out fun _ _ q => q)
  have hcv4 := conv_any (P := Try.prog) (c := c4) Try.underlying23 Try.underlying5 Try.underlying9 E HA4.out.2.symm (C59.out.at' HAT4.out fun _ _ _ _ q => q)
  have hcv5 := conv_any (P := Try.prog) (c := c5) Try.underlying23 Try.underlying5 Try.underlying9 E HA5.out.2.symm (C59.out.at' HA5.out.1 fun _ _ _ _ q => q)
  obtain ⟨sE, hsE⟩ : ∃ s, s = strOf E := ⟨_, rfl⟩
  rw [← hsE] at hcv4 hcv5
  clear hsE
  have herr := H8.out.2.1
  have HV := Lib.hid (And.intro (H7.out.2.below (C79.out.below (Nat.le_refl _) fun _ q => q.elim) (Nat.le_refl _)) H9.out.2)
  have yd0 : w9.cell? ⟨b6, 0, none⟩ = some (.int .i64 Y.kind) := (C79.out.blk H7.out.1 fun q => q).cell 0 rfl
  have yd1 : w9.cell? ⟨b6, 1, none⟩ = some (.int .i64 Y.corr) := (C79.out.blk H7.out.1 fun q => q).cell 1 rfl
  have yd2 : w9.cell? ⟨b6, 2, none⟩ = some (.string Y.client) := (C79.out.blk H7.out.1 fun q => q).cell 2 rfl
  have yd3 : w9.cell? ⟨b6, 3, none⟩ = some (.string Y.topic) := (C79.out.blk H7.out.1 fun q => q).cell 3 rfl
  have yd4 : w9.cell? ⟨b6, 4, none⟩ = some (.int .i64 Y.part) := (C79.out.blk H7.out.1 fun q => q).cell 4 rfl
  have yd5 : w9.cell? ⟨b6, 5, none⟩ = some (.int .i64 Y.off) := (C79.out.blk H7.out.1 fun q => q).cell 5 rfl
  have yd6 : w9.cell? ⟨b6, 6, none⟩ = some (.int .i64 Y.time) := (C79.out.blk H7.out.1 fun q => q).cell 6 rfl
  have yd7 : w9.cell? ⟨b6, 7, none⟩ = some (.int .i64 Y.most) := (C79.out.blk H7.out.1 fun q => q).cell 7 rfl
  have yd8 : w9.cell? ⟨b6, 8, none⟩ = some (.string Y.group) := (C79.out.blk H7.out.1 fun q => q).cell 8 rfl
  have yd9 : w9.cell? ⟨b6, 9, none⟩ = some (.string Y.member) := (C79.out.blk H7.out.1 fun q => q).cell 9 rfl
  have yd10 : w9.cell? ⟨b6, 10, none⟩ = some (.int .i64 Y.gen) := (C79.out.blk H7.out.1 fun q => q).cell 10 rfl
  have yd11 : w9.cell? ⟨b6, 11, none⟩ = some (.slice Dn Y.names.length jn) := (C79.out.blk H7.out.1 fun q => q).cell 11 rfl
  have yd12 : w9.cell? ⟨b6, 12, none⟩ = some (.slice Dd Y.data.length jd) := (C79.out.blk H7.out.1 fun q => q).cell 12 rfl
  have ydl : b6 < w9.heap.size := (C79.out.blk H7.out.1 fun q => q).lt
  have yv0 : w9.cell? ⟨b8, 0, none⟩ = some (.int .i64 Y.kind) := (H9.out.1).cell 0 rfl
  have yv1 : w9.cell? ⟨b8, 1, none⟩ = some (.int .i64 Y.corr) := (H9.out.1).cell 1 rfl
  have yv2 : w9.cell? ⟨b8, 2, none⟩ = some (.string Y.client) := (H9.out.1).cell 2 rfl
  have yv3 : w9.cell? ⟨b8, 3, none⟩ = some (.string Y.topic) := (H9.out.1).cell 3 rfl
  have yv4 : w9.cell? ⟨b8, 4, none⟩ = some (.int .i64 Y.part) := (H9.out.1).cell 4 rfl
  have yv5 : w9.cell? ⟨b8, 5, none⟩ = some (.int .i64 Y.off) := (H9.out.1).cell 5 rfl
  have yv6 : w9.cell? ⟨b8, 6, none⟩ = some (.int .i64 Y.time) := (H9.out.1).cell 6 rfl
  have yv7 : w9.cell? ⟨b8, 7, none⟩ = some (.int .i64 Y.most) := (H9.out.1).cell 7 rfl
  have yv8 : w9.cell? ⟨b8, 8, none⟩ = some (.string Y.group) := (H9.out.1).cell 8 rfl
  have yv9 : w9.cell? ⟨b8, 9, none⟩ = some (.string Y.member) := (H9.out.1).cell 9 rfl
  have yv10 : w9.cell? ⟨b8, 10, none⟩ = some (.int .i64 Y.gen) := (H9.out.1).cell 10 rfl
  have yv11 : w9.cell? ⟨b8, 11, none⟩ = some (.slice Gn Y.names.length kn) := (H9.out.1).cell 11 rfl
  have yv12 : w9.cell? ⟨b8, 12, none⟩ = some (.slice Gd Y.data.length kd) := (H9.out.1).cell 12 rfl
  have yvl : b8 < w9.heap.size := (H9.out.1).lt
  have HERR := Lib.hid herr; clear herr
  go_wp2_with fail
  refine (H.out.2.2.2.2.2.2 w9 Y Dn jn Dd jd Gn kn Gd kd HV.out.1 HV.out.2).mono ?_
  rintro en w10 ⟨rfl, h9⟩
  have C10 := Lib.hid (C9.out.trans (qh.chg h9) fun _ _ q => q); clear h9
  clear yd0 yd1 yd2 yd3 yd4 yd5 yd6 yd7 yd8 yd9 yd10 yd11 yd12 ydl yv0 yv1 yv2 yv3 yv4 yv5 yv6 yv7 yv8 yv9 yv10 yv11 yv12 yvl hcv4 hcv5 C9 C59 C79 H9 HV H7 H8 HAT4 HA4 HA5
  rcases HERR.out with ⟨h1, h2⟩ | ⟨h1, h2⟩
  · have d2 : decide (e2 < 0) = true := decide_eq_true h1
    rcases h2 with rfl | rfl
    all_goals
      clear HERR h1
      go_wp2_with fail
      refine (HGO.out w10).mono ?_
      rintro en w11 ⟨rfl, h9⟩
      have C11 := Lib.hid (HUP.out _ (C10.out.trans (qh.chg h9) fun _ _ q => q)); clear h9
      go_wp2_with fail
      go_ret
      exact ⟨rfl, C11.out⟩
  · subst h2
    have d2 : decide (e1 < 0) = false := decide_eq_false h1
    clear HERR h1
    have yu0 : w10.cell? ⟨b0, 0, none⟩ = some (.int .i64 r.kind) := (C10.out.blk HB.out.1 fun q => q).cell 0 rfl
    have yu1 : w10.cell? ⟨b0, 1, none⟩ = some (.int .i64 r.corr) := (C10.out.blk HB.out.1 fun q => q).cell 1 rfl
    have yu2 : w10.cell? ⟨b0, 2, none⟩ = some (.string r.client) := (C10.out.blk HB.out.1 fun q => q).cell 2 rfl
    have yu3 : w10.cell? ⟨b0, 3, none⟩ = some (.string r.topic) := (C10.out.blk HB.out.1 fun q => q).cell 3 rfl
    have yu4 : w10.cell? ⟨b0, 4, none⟩ = some (.int .i64 r.part) := (C10.out.blk HB.out.1 fun q => q).cell 4 rfl
    have yu5 : w10.cell? ⟨b0, 5, none⟩ = some (.int .i64 r.off) := (C10.out.blk HB.out.1 fun q => q).cell 5 rfl
    have yu6 : w10.cell? ⟨b0, 6, none⟩ = some (.int .i64 r.time) := (C10.out.blk HB.out.1 fun q => q).cell 6 rfl
    have yu7 : w10.cell? ⟨b0, 7, none⟩ = some (.int .i64 r.most) := (C10.out.blk HB.out.1 fun q => q).cell 7 rfl
    have yu8 : w10.cell? ⟨b0, 8, none⟩ = some (.string r.group) := (C10.out.blk HB.out.1 fun q => q).cell 8 rfl
    have yu9 : w10.cell? ⟨b0, 9, none⟩ = some (.string r.member) := (C10.out.blk HB.out.1 fun q => q).cell 9 rfl
    have yu10 : w10.cell? ⟨b0, 10, none⟩ = some (.int .i64 r.gen) := (C10.out.blk HB.out.1 fun q => q).cell 10 rfl
    have yu11 : w10.cell? ⟨b0, 11, none⟩ = some (.slice An r.names.length cn) := (C10.out.blk HB.out.1 fun q => q).cell 11 rfl
    have yu12 : w10.cell? ⟨b0, 12, none⟩ = some (.slice Ad r.data.length cd) := (C10.out.blk HB.out.1 fun q => q).cell 12 rfl
    have yul : b0 < w10.heap.size := (C10.out.blk HB.out.1 fun q => q).lt
    go_wp2_with fail
    refine (H.out.2.2.2.2.2.1 w10 (HUP.out _ C10.out)).mono ?_
    rintro en w11 ⟨rfl, h9⟩
    have C11 := Lib.hid (C10.out.trans (qh.chg h9) fun _ _ q => q); clear h9
    clear yu0 yu1 yu2 yu3 yu4 yu5 yu6 yu7 yu8 yu9 yu10 yu11 yu12 yul
    go_wp2_with fail
    refine (HGO.out w11).mono ?_
    rintro en w12 ⟨rfl, h9⟩
    have C12 := Lib.hid (HUP.out _ (C11.out.trans (qh.chg h9) fun _ _ q => q)); clear h9
    go_wp2_with fail
    go_ret
    exact ⟨rfl, C12.out⟩
end Go.Proofs.Ytimcpbbcealkiaa

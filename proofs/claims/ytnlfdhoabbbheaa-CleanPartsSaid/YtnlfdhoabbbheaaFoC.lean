/- fold: the iterator over the records of batches (walk$1), each a copy, for any body. -/
import Derived.OwnWalkIn
import Derived.Deep.LoopGhost
import Derived.Test.YtnlfdhoabbbheaaFoB
import Derived.Test.YtnlfdhoabbbheaaRcR
namespace Go.Proofs.Ytnlfdhoabbbheaa
open Go.RowKit Go.Shelf
attribute [local go_sem] Oper.semAt_some

/-- A record that is handed over, and where its key and its value lie. -/
abbrev FoX := Rec × (Option Addr × Nat) × (Option Addr × Nat)
def fo.xcells (x : FoX) : Array Value := fo.cells x.1 x.2.1.1 x.1.key.length x.2.1.2 x.2.2.1 x.1.val.length x.2.2.2
def fo.encs (x : FoX) : Array Value := #[.agg (fo.xcells x)]
def fo.R (Bs : List Nat) (x : FoX) (V : World) : Prop := InB Bs V ∧ Dep (Safe Bs V) V (fun U => RecR U (fo.xcells x).toList x.1)
def fo.S (bs : List Bat) (xs : List FoX) (_ : World) : Prop := xs.map Prod.fst = rc.flat bs
def fo.Sp (bs : List Bat) (pre : List FoX) (_ : World) : Prop := ∃ rest, pre.map Prod.fst ++ rest = rc.flat bs
def fo.Nx (bs : List Bat) (pre : List FoX) (x : FoX) : Prop := ∃ rest, (pre ++ [x]).map Prod.fst ++ rest = rc.flat bs
def fo.WPost (bs : List Bat) (J Jx : List FoX → World → Prop) (e : Ending) (V : World) : Prop := (∃ v, e = .returned v) ∧ ((∃ xs, fo.S bs xs V ∧ J xs V) ∨ (∃ pre, fo.Sp bs pre V ∧ Jx pre V))
/-- What may be walked. -/
def fo.Small (bs : List Bat) : Prop := bs.length ≤ 1000000 ∧ ∀ b ∈ bs, b.recs.length ≤ 1000000 ∧ ∀ r ∈ b.recs, r.key.length ≤ 1000000 ∧ r.val.length ≤ 1000000

theorem fo.flat_split {bs : List Bat} {k : Nat} {x : Bat} (h : bs[k]? = some x) : rc.flat bs = rc.flat (bs.take k) ++ (x.recs ++ rc.flat (bs.drop (k + 1))) := by
  obtain ⟨hk, e⟩ := List.getElem?_eq_some_iff.1 h
  have h1 : bs = bs.take k ++ (x :: bs.drop (k + 1)) := by rw [← e, List.getElem_cons_drop, List.take_append_drop]
  conv => lhs; rw [h1]
  unfold rc.flat
  rw [List.map_append, List.flatten_append, List.map_cons, List.flatten_cons]
/-- Batches, by the cells that they stand in. -/
def fo.Src (f : Nat → Value) (A : Option Addr) (bs : List Bat) (V : World) : Prop := At V A (bs.length * 6) f ∧ ∀ (i : Nat) (b : Bat), bs[i]? = some b → BatR V (cellsAt f i 6) b
theorem fo.Src.bats {f : Nat → Value} {A : Option Addr} {bs : List Bat} {V : World} (h : fo.Src f A bs V) : BatsAt V A bs := ⟨f, h⟩
theorem fo.Src.recs {f : Nat → Value} {A : Option Addr} {bs : List Bat} {V : World} (h : fo.Src f A bs V) {k : Nat} {x : Bat} (hx : bs[k]? = some x) {v : Value} (e : f (k * 6 + 5) = v) : RecsV V v x.recs := by
  obtain ⟨v', e', hr, -⟩ := h.2 k x hx
  have h5 := cellsAt_cell e' 5 (by omega) rfl
  rw [e] at h5
  subst h5
  exact hr
/-- Batches lean on blocks of cells. -/
theorem fo.Src.dep {V : World} {f : Nat → Value} {A : Option Addr} {bs : List Bat} {Z : Nat → Prop} (h : fo.Src f A bs V) (hz : ∀ k, k < V.heap.size → Z k) : Dep Z V (fo.Src f A bs) := by
  obtain ⟨h1, h2⟩ := h
  refine ⟨fun k => Z k ∧ CellsB V k, fun k hk => hk, fun W' hv hs => ?_⟩
  have hat : ∀ {A : Option Addr} {n : Nat} {f : Nat → Value}, At V A n f → At W' A n f := fun {A n f} ha hn => by
    obtain ⟨b, off, hA, hb, hc⟩ := ha hn
    exact ⟨b, off, hA, Nat.lt_of_lt_of_le hb hs, fun j hj => (World.cell?_of_block (hv b ⟨hz b hb, .of_cell (hc 0 hn)⟩)).trans (hc j hj)⟩
  have hby : ∀ {v : Value} {L : List Nat}, BytesV V v L → BytesV W' v L := fun {v L} ⟨A, c, e, h1, h2⟩ => ⟨A, c, e, hat h1, h2⟩
  refine ⟨hat h1, fun i b hi => ?_⟩
  obtain ⟨v, e, ⟨A1, c1, V1, rfl, k1, k2, k3, k4⟩, hq⟩ := h2 i b hi
  refine ⟨_, e, ⟨A1, c1, V1, rfl, k1, k2, hat k3, fun j r hr => ?_⟩, hq⟩
  obtain ⟨kv, vv, e1, m1, m2, m3⟩ := k4 j r hr
  exact ⟨kv, vv, e1, hby m1, hby m2, m3⟩
theorem Safe.nil (W : World) (k : Nat) : Safe [] W k := ⟨by simp, fun b hb => by cases hb⟩
theorem fo.Src.below {V W : World} {f : Nat → Value} {A : Option Addr} {bs : List Bat} (h : fo.Src f A bs V) (hb : Below V.heap.size V W) : fo.Src f A bs W := ((h.dep (Z := fun _ => True) fun _ _ => trivial).below hb).now

set_option maxRecDepth 100000 in
set_option maxHeartbeats 4000000 in
theorem fo.walk1_in (n : Nat) (hn : 2 ≤ n) (l Bp : Nat) (Bs : List Nat) (A : Option Addr) (m c : Nat) (bs : List Bat) (f : Nat → Value) (J Jx : List FoX → World → Prop) (W : World) (hlen : bs.length = m) (hsm : fo.Small bs)
    (hi : InB Bs W) (hbp : Blk W Bp 31 #[.slice A m c]) (hsrc : Dep (Safe Bs W) W (fo.Src f A bs)) (hJ : AbidesFrom W.heap.size J)
    (hY : ∀ pre x V, J pre V → fo.R Bs x V → fo.Nx bs pre x → YieldAt Fence.wide (n - 1) Try.prog l (fo.encs x) V fun e V' =>
      (e = .returned (.bool true) ∧ J (pre ++ [x]) V' ∧ Kept Bs V V') ∨ (e = .returned (.bool false) ∧ Jx (pre ++ [x]) V' ∧ Kept Bs V V')) (h0 : J [] W) :
    CallsIn Fence.wide n Try.prog 56 #[.func (.yield l) #[] #[], .pointer (some ⟨Bp, 0, none⟩)] W (fo.WPost bs J Jx) := by
  refine callsIn_of_wp Try.func56 rfl trivial ?_ rfl
  simp only [Try.ntmps56, List.size_toArray, List.length_cons, List.length_nil, Nat.reduceAdd, Nat.reduceSub, Array.replicate_succ, Array.replicate_zero, List.push_toArray, List.append_toArray, List.nil_append, List.cons_append]
  have hJn : ∀ pre V V', J pre V → Below V.heap.size V V' → J pre V' := fun pre V V' h hb => hJ pre V V' none h (grown_by hb) fun r e => by cases e
  have HJN := Lib.hid hJn; clear hJn hJ
  have HY := Lib.hid hY; clear hY
  have HLEN := Lib.hid hlen; clear hlen
  have HI := Lib.hid hi; clear hi
  have HSRC := Lib.hid hsrc; clear hsrc
  have H0 := Lib.hid h0; clear h0
  have hm6 : m ≤ 1000000 := by rw [← HLEN.out]; exact hsm.1
  have HSM := Lib.hid hsm; clear hsm
  have c1 := hbp.cell 0 (v := .slice A m c) rfl
  clear hbp
  gi_wp2_with fail
  clear c1
  gi_loopw [9] (fun s9 wr => ∃ (pre : List FoX) (k : Nat), s9 = .int .i64 (k : Int) ∧ k ≤ m ∧ pre.map Prod.fst = rc.flat (bs.take k) ∧ J pre wr ∧ InB Bs wr ∧ Dep (Safe Bs wr) wr (fo.Src f A bs)) (fun s9 _ => m - (intOf s9).toNat)
  case atStart => exact ⟨[], 0, rfl, by omega, rfl, H0.out, HI.out, HSRC.out⟩
  case round =>
    obtain ⟨pre, k, rfl, hk, hpre, hj, hi, hsrc⟩ := hrel
    clear HI HSRC H0
    have HPRE := Lib.hid hpre; clear hpre
    have HJ := Lib.hid hj; clear hj
    have HI := Lib.hid hi; clear hi
    have HSRC := Lib.hid hsrc; clear hsrc
    by_cases hkm : k < m
    · have hkm' : (k : Int) < m := by omega
      obtain ⟨x, hx⟩ : ∃ x, bs[k]? = some x := ⟨_, List.getElem?_eq_getElem (by rw [HLEN.out]; exact hkm)⟩
      obtain ⟨hrl, hrs⟩ := HSM.out.2 x (List.mem_of_getElem? hx)
      obtain ⟨b2, off2, v2, hA2, hb2, e0, e1, e2, e3, e4, e5, hrecs, -⟩ := HSRC.out.now.bats.at' hx
      subst hA2
      have hv5 : f (k * 6 + 5) = v2 := by
        have hkl := (List.getElem?_eq_some_iff.1 hx).1
        obtain ⟨b9, o9, h9, -, h8⟩ := HSRC.out.now.1 (by omega)
        obtain ⟨rfl, rfl⟩ : b2 = b9 ∧ off2 = o9 := by simpa using h9
        have h7 := h8 (k * 6 + 5) (by omega)
        rw [← Nat.add_assoc, e5] at h7
        exact (Option.some.inj h7).symm
      obtain ⟨A4, c4, V4, rfl, hmc, hc4, -⟩ := id hrecs
      obtain ⟨p, hp⟩ : ∃ p, p = x.recs.length := ⟨_, rfl⟩
      rw [← hp] at e5 hmc hrl
      have HX := Lib.hid (And.intro hx (And.intro hp hv5)); clear hx hp hrecs hv5
      have HRS := Lib.hid hrs; clear hrs
      gi_wp2_with fail
      obtain ⟨g, hg⟩ : ∃ g, g = wr.heap.size := ⟨_, rfl⟩
      obtain ⟨w2, hw2⟩ : ∃ w2, w2 = wr.alloc (.cells #[.int .i64 x.base, .int .i64 x.last, .int .i64 x.prod, .int .i64 x.epoch, .int .i64 x.seq, .slice A4 p c4] 46) := ⟨_, rfl⟩
      rw [← hw2, ← hg]
      have hb2' : Below wr.heap.size wr w2 := by rw [hw2]; exact (Below.refl _ _).alloc (Nat.le_refl _) _
      have H2 := Lib.hid (And.intro (HJN.out pre wr w2 HJ.out hb2') (And.intro (HI.out.below hb2') (HSRC.out.belowS HI.out hb2')))
      clear hw2 hg hb2' e0 e1 e2 e3 e4 e5 HJ HI HSRC
      gi_loopw [16] (fun s16 wx => ∃ (pre2 : List FoX) (j : Nat), s16 = .int .i64 (j : Int) ∧ j ≤ p ∧ pre2.map Prod.fst = rc.flat (bs.take k) ++ x.recs.take j ∧ J pre2 wx ∧ InB Bs wx ∧ Dep (Safe Bs wx) wx (fo.Src f (some ⟨b2, off2, none⟩) bs)) (fun s16 _ => p - (intOf s16).toNat)
      case atStart => exact ⟨pre, 0, rfl, by omega, by rw [HPRE.out, List.take_zero, List.append_nil], H2.out.1, H2.out.2.1, H2.out.2.2⟩
      case round =>
        obtain ⟨pre2, j, rfl, hj, hpre2, hjj, hi, hsrc⟩ := hrel
        clear H2
        have HPR2 := Lib.hid hpre2; clear hpre2
        have HJ := Lib.hid hjj; clear hjj
        have HI := Lib.hid hi; clear hi
        have HSRC := Lib.hid hsrc; clear hsrc
        by_cases hjp : j < p
        · have hjp' : (j : Int) < p := by omega
          obtain ⟨y, hy⟩ : ∃ y, x.recs[j]? = some y := ⟨_, List.getElem?_eq_getElem (by rw [← HX.out.2.1]; exact hjp)⟩
          obtain ⟨hkl, hvl⟩ := HRS.out y (List.mem_of_getElem? hy)
          have hrecs := HSRC.out.now.recs HX.out.1 HX.out.2.2
          obtain ⟨pr, off, c', kv, vv, hA, -, -, hpr, d0, d1, d2, d3, d4, d5, hkk, hvv, hio, hti⟩ := hrecs.at' hy
          obtain ⟨rfl, rfl⟩ : A4 = some ⟨pr, off, none⟩ ∧ c4 = c' := by simpa using hA
          obtain ⟨Ak, ck, rfl, hka, hk1, hk2, hk3⟩ := hkk
          obtain ⟨Av, cv, rfl, hva, hv1, hv2, hv3⟩ := hvv
          have hwb : ∀ o, Below wr.heap.size wr (wr.alloc o) := fun o => (Below.refl _ _).alloc (Nat.le_refl _) _
          have hcp := fo.copy_any y Ak y.key.length ck Av y.val.length cv (wr.alloc (.cells #[.int .i64 y.off, .int .i64 y.time, .bool y.hasKey, .slice Ak y.key.length ck, .bool y.hasVal, .slice Av y.val.length cv] 34)) (hka.below (hwb _) (Nat.le_refl _)) rfl hkl (hva.below (hwb _) (Nat.le_refl _)) rfl hvl
          unfold fo.CopyPost fo.cells at hcp
          have HCP := Lib.hid (And.intro hcp (And.intro (HJN.out pre2 wr _ HJ.out (hwb (.cells #[.int .i64 y.off, .int .i64 y.time, .bool y.hasKey, .slice Ak y.key.length ck, .bool y.hasVal, .slice Av y.val.length cv] 34))) (And.intro (HI.out.below (hwb (.cells #[.int .i64 y.off, .int .i64 y.time, .bool y.hasKey, .slice Ak y.key.length ck, .bool y.hasVal, .slice Av y.val.length cv] 34))) (HSRC.out.belowS HI.out (hwb (.cells #[.int .i64 y.off, .int .i64 y.time, .bool y.hasKey, .slice Ak y.key.length ck, .bool y.hasVal, .slice Av y.val.length cv] 34))))))
          have HB := Lib.hid (And.intro hk3 (And.intro hv3 (And.intro hio (And.intro hti hy))))
          clear hcp hwb hka hva hk3 hv3 hio hti hy hrecs hA HJ HI HSRC
          gi_wp2_with fail
          refine ⟨trivial, fun _ => by omega, ?_⟩
          refine (callsIn_wide.2 HCP.out.1).mono ?_
          rintro e w4 ⟨Ak', ck', Av', cv', rfl, hOk, hOv, hb4⟩
          obtain ⟨hk3, hv3, hio, hti, hy⟩ := HB.out
          have hj4 := HJN.out pre2 _ w4 HCP.out.2.1 hb4
          have hi3 := HCP.out.2.2.1
          have hi4 := hi3.below hb4
          have hs4 := HCP.out.2.2.2.belowS hi3 hb4
          have hdk : Dep (Safe Bs w4) w4 (fun U => At U Ak' y.key.length (byteAt y.key)) := Dep.at' hOk.1 fun hp b off e => (Safe.new hi3 (hOk.2.2.2.1 hp b off e)).below hi3 hb4
          have hdv : Dep (Safe Bs w4) w4 (fun U => At U Av' y.val.length (byteAt y.val)) := Dep.at' hOv.1 fun hp b off e => (Safe.new hi3 (hOv.2.2.2.1 hp b off e)).below hi3 hb4
          have hR4 : fo.R Bs (y, (Ak', ck'), (Av', cv')) w4 := ⟨hi4, (hdk.both hdv).imp fun U hu => ⟨_, _, rfl, ⟨Ak', ck', rfl, hu.1, hOk.2.1, hOk.2.2.1, hk3⟩, ⟨Av', cv', rfl, hu.2, hOv.2.1, hOv.2.2.1, hv3⟩, hio, hti⟩⟩
          have hnext : (pre2 ++ [(y, (Ak', ck'), (Av', cv'))]).map Prod.fst = rc.flat (bs.take k) ++ x.recs.take (j + 1) := by
            obtain ⟨hjl, hjy⟩ := List.getElem?_eq_some_iff.1 hy
            rw [List.map_append, HPR2.out, List.take_succ_eq_append_getElem hjl, hjy, List.append_assoc]
            rfl
          have hNx : fo.Nx bs pre2 (y, (Ak', ck'), (Av', cv')) := ⟨x.recs.drop (j + 1) ++ rc.flat (bs.drop (k + 1)), by
            rw [hnext, fo.flat_split HX.out.1, List.append_assoc, ← List.append_assoc (x.recs.take (j + 1)), List.take_append_drop]⟩
          have hyy := HY.out pre2 (y, (Ak', ck'), (Av', cv')) w4 hj4 hR4 hNx
          unfold fo.encs fo.xcells fo.cells at hyy
          dsimp only at hyy
          obtain ⟨fn, tmps, assign, body, hyq, hRq⟩ := hyy
          have HRQ := Lib.hid hRq; clear hRq
          have HS4 := Lib.hid (And.intro hi4 hs4); clear hi4 hs4
          have HNX := Lib.hid (And.intro hnext hNx); clear hnext hNx hdk hdv hR4 hj4 hi3 hOk hOv hk3 hv3 hio hti hy hb4 HCP HB
          gi_wp2_with fail
          refine ⟨fun _ => by omega, HRQ.out.mono ?_⟩
          clear hyq
          rintro e W3 (⟨rfl, hJ3, hk3⟩ | ⟨rfl, hJx3, hk3⟩)
          · have hs3 := HS4.out.2.kept hk3
            have hi3 := hk3.2.2.2 HS4.out.1
            have HK3 := Lib.hid (And.intro hJ3 (And.intro hi3 hs3)); clear hJ3 hi3 hs3 hk3
            gi_wp2_with fail
            go_roundw
            case rel => exact ⟨_, j + 1, by go_num, by omega, HNX.out.1, HK3.out.1, HK3.out.2.1, HK3.out.2.2⟩
            case measure => simp [intOf]; omega
          · clear hk3
            gi_wp2
            refine bodyPost_ret (results_none rfl _ _ _) rfl ?_
            exact ⟨⟨_, rfl⟩, .inr ⟨_, HNX.out.2, hJx3⟩⟩
        · obtain rfl : j = p := by omega
          gi_wp2_with fail
          go_roundw
          case rel => exact ⟨pre2, k + 1, by go_num, by omega, by rw [HPR2.out, HX.out.2.1, List.take_length]; exact (rc.flat_take HX.out.1).symm, HJ.out, HI.out, HSRC.out⟩
          case measure => simp [intOf]; omega
    · obtain rfl : k = m := by omega
      have hend : pre.map Prod.fst = rc.flat bs := by
        have h := HPRE.out
        rw [List.take_of_length_le (by rw [HLEN.out]; exact Nat.le_refl _)] at h
        exact h
      have HEND := Lib.hid hend; clear hend
      gi_wp2_with fail
      refine bodyPost_ret (results_none rfl _ _ _) rfl ?_
      exact ⟨⟨_, rfl⟩, .inl ⟨pre, HEND.out, HJ.out⟩⟩

theorem fo.hands (n : Nat) (hn : 2 ≤ n) (Bp : Nat) (Bs : List Nat) (A : Option Addr) (m c : Nat) (bs : List Bat) (f : Nat → Value) (w : World) (hlen : bs.length = m) (hsm : fo.Small bs) (hi : InB Bs w) (hbp : Blk w Bp 31 #[.slice A m c]) (hsrc : Dep (Safe Bs w) w (fo.Src f A bs)) :
    Hands Fence.wide n Try.prog 56 #[.pointer (some ⟨Bp, 0, none⟩)] fo.encs (Kept Bs) (fo.R Bs) (fo.S bs) (fo.Sp bs) (fo.Nx bs) w :=
  fun l J Jx W hW hJ _ hY h0 => fo.walk1_in n hn l Bp Bs A m c bs f J Jx W hlen hsm (hi.below hW) ((hW.block Bp hbp.lt).trans hbp) (hsrc.belowS hi hW) hJ hY h0
theorem fo.walk_any (A : Option Addr) (m c : Nat) (w : World) :
    Calls Try.prog 43 #[.slice A m c] w fun e w' => e = .returned (.func (.func 56) #[] #[.pointer (some ⟨w.heap.size, 0, none⟩)]) ∧ w' = w.alloc (.cells #[.slice A m c] 31) := by
  go_enter Try.func43, Try.ntmps43
  go_wp2
  go_ret
  exact ⟨rfl, rfl⟩
theorem fo.R_own (B : Nat) (Bs : List Nat) : OwnFrom B (fo.R Bs) := fun _ _ _ _ h hg hr => ⟨h.1.grown hg fun r e => (hr r e).2, h.2.grown h.1 hg fun r e => (hr r e).2⟩
end Go.Proofs.Ytnlfdhoabbbheaa

/- Names, All, the law's walk and Texts (cordwainlaw4). -/
import Derived.Test.YthffkbcjidbdaaaDmX
import Derived.Test.YthffkbcjidbdaaaDkO
import Derived.Test.YthffkbcjidbdaaaEch
import Derived.BigRegionIn
import Derived.Test.YthffkbcjidbdaaaConv
import Derived.OwnWalk
import Derived.Sort.Walk0
import Derived.Test.YthffkbcjidbdaaaRfX
namespace Go.Proofs.Ythffkbcjidbdaaa
section
open Go.RowKit Go.Maps
set_option maxRecDepth 20000

theorem rd.nodup_len {l : RNames} : (l.map Prod.fst).length = l.length := List.length_map ..
set_option maxHeartbeats 2000000 in
theorem PDisk.names {p : Nat} {M : RDisk} {F : Nat → Prop} {n : Nat} {w : World} (h : PDisk w p M F n) (hn : n ≤ 100000) :
    Calls Try.prog 26 #[.pointer (some ⟨p, 0, none⟩)] w fun e w' => ∃ v, e = .returned v ∧ w'.ownsRow w.heap.size 9 1 v M.now.length ((M.now.map Prod.fst).map .string) ∧ Below w.heap.size w w' := by
  obtain ⟨D, ι, m, ⟨S, bn, bs, sv, dat, h⟩, hs, hw, -, hm, -, -⟩ := h
  obtain ⟨N, hN, hgm⟩ := h.now
  have k6 := h.blk.cell 6 (v := .map (some bn)) rfl
  have hpl := h.blk.lt
  have hkey := dk.maps_keysP (some bn) w
  have hsrt := dk.keys_risingP bn N _ w hgm (by omega)
  have hall : ∀ (ks : List ByteArray), dk.Keys (fun s => (D.now s).map dk.ptr) ks → dk.Rise ks → ks.length = N → ks = M.now.map Prod.fst ∧ N = M.now.length := fun ks h1 h2 h3 => by
    have e := rd.keys hw.rise hs.now hw.good h1 h2.rises
    exact ⟨e, by rw [← h3, e, List.length_map]⟩
  have HK := Lib.hid (And.intro hkey (And.intro hsrt hall)); clear hkey hsrt hall h hs hw hgm
  go_enter Try.func26, Try.ntmps26
  go_wp2_with (first
    | (go_at_call 50; refine HK.out.2.1.mono ?_; rintro e w2 ⟨v, ks, rfl, q1, q2, q3, q4, q5⟩; have H2 := Lib.hid (And.intro (HK.out.2.2 ks q1 q3 q2) (And.intro q4 q5)); clear q1 q2 q3 q4 q5)
    | (go_at_call 51; refine HK.out.1.mono ?_; rintro e w1 ⟨rfl, rfl⟩))
  go_ret
  obtain ⟨⟨rfl, rfl⟩, q4, q5⟩ := H2.out
  exact ⟨_, rfl, ownsRow_base q4 (by simp), ((Below.refl _ w).alloc (Nat.le_refl _) _).trans (q5.mono (by simp))⟩

theorem disk.All_any (p : Option Addr) (w : World) :
    Calls Try.prog 46 #[.pointer p] w fun e w' => e = .returned (.func (.func 59) #[] #[.pointer (some ⟨w.heap.size, 0, none⟩)]) ∧ w' = w.alloc (.cells #[.pointer p] 25) := by
  go_enter Try.func46, Try.ntmps46
  go_wp2
  go_ret
  exact ⟨rfl, rfl⟩

/-- What a round keeps that gathers in the boxes Bs: the disk's blocks, and all else but the boxes and what they hold. -/
def DKp (F : Nat → Prop) (Bs : List Nat) (A B : World) : Prop := Kept Bs A B ∧ Chg A B (fun k => ¬ F k)
theorem DKp.trans {F : Nat → Prop} {Bs : List Nat} {A B C : World} (h : DKp F Bs A B) (g : DKp F Bs B C) : DKp F Bs A C := ⟨h.1.trans g.1, h.2.trans g.2 fun _ _ q => q⟩
theorem DKp.below {F : Nat → Prop} {Bs : List Nat} {A B : World} (hi : InB Bs A) (h : Below A.heap.size A B) : DKp F Bs A B := ⟨Kept.grown hi (grown_by h) fun r e => (by cases e), (chg_of (P := fun _ => False) h).mono fun _ _ q => q.elim⟩
theorem DKp.put {F : Nat → Prop} {Bs : List Nat} {W : World} {l : Nat} {o o' : Obj} (hl : W.heap[l]? = some o) (ho : o.isCells = false) (hb : ∀ b ∈ Bs, b < l) (hf : ¬ F l) : DKp F Bs W (W.putObj l o') :=
  ⟨Kept.put hl ho hb, rfl, rfl, rfl, by simp, fun _ _ hp => World.putObj_heap_other fun e => hp fun hk => hf (e ▸ hk)⟩
theorem PDisk.kept {p : Nat} {M : RDisk} {F : Nat → Prop} {Bs : List Nat} {n : Nat} {A B : World} (h : PDisk A p M F n) (hk : DKp F Bs A B) : PDisk B p M F n := h.keep hk.2 fun _ hk hn => hn hk
theorem DKp.row {F : Nat → Prop} {Bs : List Nat} {A B : World} (h : DKp F Bs A B) {base s n : Nat} {e : TypeId} {v : Value} {xs : List Value} (hr : A.ownsRow base e s v n xs) (hs : ∀ k, v.ownBlock = some k → Safe Bs A k) : B.ownsRow base e s v n xs ∧ ∀ k, v.ownBlock = some k → Safe Bs B k := by
  refine ⟨⟨hr.1, ?_⟩, fun k hk => h.1.safe (hr.lt k hk).2 (hs k hk)⟩
  rcases hr.2 with h2 | ⟨g, cap, cur, h1, h3, h4, h5⟩
  · exact .inl h2
  · exact .inr ⟨g, cap, cur, h1, h3, h.1.2.1 g _ h4 rfl (hs g (by rw [h1]; rfl)), h5⟩
/-- Whence a walk comes. -/
structure DSrc (F : Nat → Prop) (Bs : List Nat) (Bp p : Nat) (M : RDisk) (n : Nat) (W : World) : Prop where
  box : Blk W Bp 25 #[.pointer (some ⟨p, 0, none⟩)]
  safe : Safe Bs W Bp
  inb : InB Bs W
  dk : PDisk W p M F n
theorem DSrc.keep {F : Nat → Prop} {Bs : List Nat} {Bp p n : Nat} {M : RDisk} {W V : World} (h : DSrc F Bs Bp p M n W) (hk : DKp F Bs W V) : DSrc F Bs Bp p M n V :=
  ⟨hk.1.2.1 Bp _ h.box rfl h.safe, hk.1.safe h.box.lt h.safe, hk.1.2.2.2 h.inb, h.dk.kept hk⟩
/-- A value of the walk: a name, and its file's size. -/
abbrev DX := ByteArray × Int
def dx.encs (x : DX) : Array Value := #[.string x.1, .int .i64 x.2]
def dx.R (_ : DX) (_ : World) : Prop := True
def dx.S (S : List DX) (xs : List DX) (_ : World) : Prop := xs = S
def dx.Sp (S : List DX) (pre : List DX) (_ : World) : Prop := ∃ rest, pre ++ rest = S
def dx.Nx (S : List DX) (pre : List DX) (x : DX) : Prop := ∃ rest, pre ++ x :: rest = S
def dx.Post (S : List DX) (J Jx : List DX → World → Prop) (e : Ending) (V : World) : Prop := (∃ v, e = .returned v) ∧ ((∃ xs, dx.S S xs V ∧ J xs V) ∨ (∃ pre, dx.Sp S pre V ∧ Jx pre V))
def RDisk.shown (M : RDisk) : List DX := M.now.map fun y => (y.1, M.len y.2)
theorem RDisk.size_at {M : RDisk} (hw : M.WF) {j : Nat} {y : ByteArray × Nat} (h : M.now[j]? = some y) : M.size y.1 = M.len y.2 := by
  unfold RDisk.size
  rw [rd.mem_look hw.rise (s := y.1) (f := y.2) (List.mem_of_getElem? h)]
theorem dx.two_ways {e : Ending} {P Q : Prop} (h : (e = .returned (.bool true) ∧ P) ∨ (e = .returned (.bool false) ∧ Q)) : ∃ b, e = .returned (.bool b) ∧ ((b = true ∧ P) ∨ (b = false ∧ Q)) := by
  rcases h with ⟨rfl, h⟩ | ⟨rfl, h⟩
  · exact ⟨true, rfl, .inl ⟨rfl, h⟩⟩
  · exact ⟨false, rfl, .inr ⟨rfl, h⟩⟩

set_option maxHeartbeats 2000000 in
theorem disk.all1_in (n : Nat) (hn : 3 ≤ n) (l Bp p : Nat) (M : RDisk) (F : Nat → Prop) (Bs : List Nat) (m : Nat) (J Jx : List DX → World → Prop) (W : World) (hm : m ≤ 100000)
    (hsrc : DSrc F Bs Bp p M m W) (hJ : AbidesFrom W.heap.size J)
    (hY : ∀ pre x V, J pre V → dx.R x V → dx.Nx M.shown pre x → YieldAt Fence.wide (n - 1) Try.prog l (dx.encs x) V fun e V' =>
      (e = .returned (.bool true) ∧ J (pre ++ [x]) V' ∧ DKp F Bs V V') ∨ (e = .returned (.bool false) ∧ Jx (pre ++ [x]) V' ∧ DKp F Bs V V')) (h0 : J [] W) :
    CallsIn Fence.wide n Try.prog 59 #[.func (.yield l) #[] #[], .pointer (some ⟨Bp, 0, none⟩)] W (dx.Post M.shown J Jx) := by
  refine callsIn_of_wp Try.func59 rfl trivial ?_ rfl
  simp only [Try.ntmps59, List.size_toArray, List.length_cons, List.length_nil, Nat.reduceAdd, Nat.reduceSub, Array.replicate_succ, Array.replicate_zero, List.push_toArray, List.append_toArray, List.nil_append, List.cons_append]
  have hJn : ∀ pre V V', J pre V → Below V.heap.size V V' → J pre V' := fun pre V V' h hb => hJ pre V V' none h (grown_by hb) fun r e => by cases e
  have HJN := Lib.hid hJn; clear hJn hJ
  have HY := Lib.hid hY; clear hY
  have H0 := Lib.hid h0; clear h0
  have b0 := hsrc.box.cell 0 rfl
  have hwf := hsrc.dk.up.2.2.2
  have HWF := Lib.hid hwf; clear hwf
  have HSRC := Lib.hid hsrc; clear hsrc
  obtain ⟨N, hN⟩ : ∃ N, N = M.now.length := ⟨_, rfl⟩
  have hNb : N ≤ 100000 := by
    obtain ⟨D, ι, m', -, -, -, -, -, h6, -⟩ := HSRC.out.dk
    omega
  have HN := Lib.hid hN; clear hN
  gi_wp2_with fail
  refine ⟨trivial, fun _ => by omega, ?_⟩
  refine (callsIn_wide.2 (HSRC.out.dk.names hm)).mono ?_
  rintro e w2 ⟨v, rfl, hrow, hb2⟩
  rw [← HN.out] at hrow
  obtain ⟨A, c, rfl, -⟩ := own_at hrow
  have hsrc2 := HSRC.out.keep (DKp.below HSRC.out.inb hb2)
  have hj0 := HJN.out [] W w2 H0.out hb2
  have hsafe : ∀ k, (Value.slice A N c).ownBlock = some k → Safe Bs w2 k := fun k hk => Safe.below HSRC.out.inb hb2 (Safe.new HSRC.out.inb (hrow.lt k hk).1)
  have HSRC2 := Lib.hid hsrc2; clear hsrc2 HSRC
  have HROW := Lib.hid (And.intro (show w2.ownsRow 0 9 1 (.slice A N c) N ((M.now.map Prod.fst).map .string) from ownsRow_base hrow (Nat.zero_le _)) hsafe); clear hrow hb2 H0 hsafe
  have HJ0 := Lib.hid hj0; clear hj0 b0
  gi_wp2_with fail
  gi_loopw [8] (fun s8 wr => ∃ (j : Nat), s8 = .int .i64 (j : Int) ∧ j ≤ N ∧ J (M.shown.take j) wr ∧ DSrc F Bs Bp p M m wr ∧ wr.ownsRow 0 9 1 (.slice A N c) N ((M.now.map Prod.fst).map .string) ∧ ∀ k, (Value.slice A N c).ownBlock = some k → Safe Bs wr k) (fun s8 _ => N - (intOf s8).toNat)
  case atStart => exact ⟨0, rfl, by omega, HJ0.out, HSRC2.out, HROW.out.1, HROW.out.2⟩
  case round =>
    obtain ⟨j, rfl, hj, hjj, hsrc, hrow, hsafe⟩ := hrel
    clear HSRC2 HROW HJ0
    have HJ := Lib.hid hjj; clear hjj
    by_cases hlt : j < N
    · obtain ⟨y, hy⟩ : ∃ y, M.now[j]? = some y := ⟨_, List.getElem?_eq_getElem (by have := HN.out; omega)⟩
      obtain ⟨g1, rfl⟩ : ∃ g1, A = some ⟨g1, 0, none⟩ := by
        rcases hrow.2 with ⟨h, hz⟩ | ⟨g, cap, cur, h, _⟩
        · simp at h; omega
        · simp at h; exact ⟨g, h.1⟩
      have d0 : wr.cell? ⟨g1, j, none⟩ = some (.string y.1) := by
        have := hrow.cells (g := g1) rfl j (.string y.1) (by rw [List.getElem?_map, List.getElem?_map, hy]; rfl)
        rw [add_none, Nat.zero_add] at this
        exact this
      have e0 : wr.cell? ⟨Bp, 0, none⟩ = some (.pointer (some ⟨p, 0, none⟩)) := hsrc.box.cell 0 rfl
      have hsz : y.1.size ≤ maxLen := dk.ok_le (HWF.out.good y (List.mem_of_getElem? hy)).2
      have hsize := hsrc.dk.size hsz
      rw [RDisk.size_at HWF.out hy] at hsize
      have hst : M.shown.take (j + 1) = M.shown.take j ++ [(y.1, M.len y.2)] := by
        have hl : j < M.shown.length := by unfold RDisk.shown; rw [List.length_map, ← HN.out]; exact hlt
        have hg : M.shown[j] = (y.1, M.len y.2) := by
          have h1 : M.shown[j]? = some (y.1, M.len y.2) := by
            unfold RDisk.shown
            rw [List.getElem?_map, hy]
            rfl
          rw [List.getElem?_eq_getElem hl] at h1
          exact Option.some.inj h1
        rw [List.take_succ_eq_append_getElem hl, hg]
      have hnx : dx.Nx M.shown (M.shown.take j) (y.1, M.len y.2) := ⟨M.shown.drop (j + 1), by
        have := List.take_append_drop (j + 1) M.shown
        rw [hst] at this
        simpa using this⟩
      have hsp : ∃ rest, (M.shown.take j ++ [(y.1, M.len y.2)]) ++ rest = M.shown := ⟨M.shown.drop (j + 1), by rw [← hst]; exact List.take_append_drop _ _⟩
      have HST := Lib.hid (And.intro hst (And.intro hnx hsp)); clear hst hnx hsp
      have HS := Lib.hid (And.intro hsrc (And.intro hrow hsafe)); clear hsrc hrow hsafe
      have HSZ := Lib.hid hsize; clear hsize hy
      obtain ⟨s, f⟩ := y
      dsimp only at *
      obtain ⟨z, hz⟩ : ∃ z, z = M.len f := ⟨_, rfl⟩
      rw [← hz] at HST HSZ
      clear hz
      gi_wp2_with fail
      refine ⟨trivial, fun _ => by omega, ?_⟩
      refine (callsIn_wide.2 HSZ.out).mono ?_
      rintro e w3 ⟨rfl, hb3, -⟩
      have hkp := DKp.below (F := F) HS.out.1.inb hb3
      have hsrc3 := HS.out.1.keep hkp
      have hrow3 := hkp.row HS.out.2.1 HS.out.2.2
      have hy := HY.out (M.shown.take j) (s, z) w3 (HJN.out _ wr w3 HJ.out hb3) trivial HST.out.2.1
      unfold dx.encs at hy
      dsimp only at hy
      obtain ⟨fn, tmps, assign, body, hyq, hRq⟩ := hy
      have HRQ := Lib.hid hRq; clear hRq
      have HK := Lib.hid (And.intro hsrc3 hrow3); clear hsrc3 hrow3 hkp hb3
      gi_wp2_with fail
      refine ⟨fun _ => by omega, HRQ.out.mono ?_⟩
      rintro e W5 hres
      obtain ⟨bv, hbv, hr2⟩ := dx.two_ways hres
      subst hbv
      clear hres
      rcases hr2 with ⟨rfl, hJ3, hk3⟩ | ⟨rfl, hJx3, hk3⟩
      · have HK3 := Lib.hid (And.intro hJ3 (And.intro (HK.out.1.keep hk3) (hk3.row HK.out.2.1 HK.out.2.2))); clear hJ3 hk3
        gi_wp2_with fail
        go_roundw
        case rel => exact ⟨j + 1, by go_num, by omega, by rw [HST.out.1]; exact HK3.out.1, HK3.out.2.1, HK3.out.2.2.1, HK3.out.2.2.2⟩
        case measure => simp [intOf]; omega
      · have HK3 := Lib.hid hJx3; clear hJx3 hk3
        gi_wp2
        refine bodyPost_ret (results_none rfl _ _ _) rfl ?_
        exact ⟨⟨_, rfl⟩, .inr ⟨_, HST.out.2.2, HK3.out⟩⟩
    · obtain rfl : j = N := by omega
      have hend : M.shown.take j = M.shown := List.take_of_length_le (by unfold RDisk.shown; rw [List.length_map, ← HN.out]; exact Nat.le_refl _)
      have HEND := Lib.hid hend; clear hend hrow hsrc hsafe
      gi_wp2_with fail
      refine bodyPost_ret (results_none rfl _ _ _) rfl ?_
      exact ⟨⟨_, rfl⟩, .inl ⟨_, rfl, by rw [← HEND.out]; exact HJ.out⟩⟩
theorem disk.hands (n : Nat) (hn : 3 ≤ n) (Bp p : Nat) (M : RDisk) (F : Nat → Prop) (Bs : List Nat) (m : Nat) (w : World) (hm : m ≤ 100000) (hsrc : DSrc F Bs Bp p M m w) :
    Hands Fence.wide n Try.prog 59 #[.pointer (some ⟨Bp, 0, none⟩)] dx.encs (DKp F Bs) dx.R (dx.S M.shown) (dx.Sp M.shown) (dx.Nx M.shown) w := by
  intro lb J Jx W hW hJ _ hY h0
  exact disk.all1_in n hn lb Bp p M F Bs m J Jx W hm (hsrc.keep (DKp.below hsrc.inb hW)) hJ hY h0
end
section
open Go.RowKit
set_option maxRecDepth 20000
attribute [local go_sem] Oper.semAt_some

def dx.strs (l : List DX) : List Value := l.map fun x => .string x.1
def dx.ints (l : List DX) : List Value := l.map fun x => .int .i64 x.2
/-- What the rounds keep: two rows in their boxes. -/
def dx.I (z : Nat) (w : World) (most : Int) (pre : List DX) (W : World) : Prop :=
  (∃ va, Boxed W (z + 1) 42 va ∧ W.ownsRow (z + 3) 9 1 va pre.length (dx.strs pre)) ∧ (∃ vl, Boxed W (z + 2) 43 vl ∧ W.ownsRow (z + 3) 3 1 vl pre.length (dx.ints pre)) ∧
    InB [z + 1, z + 2] W ∧ Boxed W z 3 (.int .i64 most) ∧ Below z w W
theorem dx.I_own (z : Nat) (w : World) (most : Int) (B : Nat) (hz : z ≤ w.heap.size) (hB : z ≤ B) : OwnFrom B (dx.I z w most) := fun pre W W' row h hg hr => by
  obtain ⟨⟨va, h1, h2⟩, ⟨vl, h3, h4⟩, h5, h7, h8⟩ := h
  have hr' : ∀ r, row = some r → ∃ o : Obj, W.heap[r]? = some o ∧ o.isCells = false := fun r e => (hr r e).2
  have hbx : ∀ {b : Nat} {t : TypeId} {v : Value}, Boxed W b t v → Boxed W' b t v := fun {b t v} h => h.kept hg fun e => by
    obtain ⟨o, ho, hc⟩ := hr' b e.symm
    rw [show W.heap[b]? = _ from h] at ho
    cases ho
    cases hc
  have hrw : ∀ {b s n : Nat} {e : TypeId} {v : Value} {xs : List Value}, W.ownsRow b e s v n xs → W'.ownsRow b e s v n xs := fun {b s n e v xs} h => by
    refine h.kept hg ?_
    rcases h.2 with ⟨rfl, _⟩ | ⟨g, cap, cur, rfl, _, hgb, _⟩
    · exact .inl rfl
    · refine .inr fun e => ?_
      obtain ⟨o, ho, hc⟩ := hr' g e.symm
      rw [hgb] at ho
      cases ho
      cases hc
  exact ⟨⟨va, hbx h1, hrw h2⟩, ⟨vl, hbx h3, hrw h4⟩, h5.grown hg hr', hbx h7, h8.grown hg (Nat.le_trans hz h8.size) fun k e => Nat.le_trans hB (hr k e).1⟩

/-- Behind the first append and its store. -/
theorem dx.mid {z : Nat} {W w2 : World} {va vl v1 : Value} {n : Nat} {xs ys zs : List Value} {tmp : Obj} (hzW : z ≤ W.heap.size)
    (ba : Boxed W (z + 1) 42 va) (ra : W.ownsRow (z + 3) 9 1 va n xs) (bl : Boxed W (z + 2) 43 vl) (rl : W.ownsRow (z + 3) 3 1 vl n ys)
    (hown : w2.ownsRow (z + 3) 9 1 v1 (n + 1) zs) (hgrow : (W.alloc tmp).grownBy w2 va.ownBlock) :
    Boxed w2 (z + 1) 42 va ∧ Boxed (w2.setCell ⟨z + 1, 0, none⟩ v1) (z + 2) 43 vl ∧ (w2.setCell ⟨z + 1, 0, none⟩ v1).ownsRow (z + 3) 3 1 vl n ys ∧ W.heap.size ≤ (w2.setCell ⟨z + 1, 0, none⟩ v1).heap.size := by
  obtain ⟨q1, q2, q3, q4, q5, q6⟩ := box_appended (n₀ := z) ba (by omega) (by omega) ra hzW hown hgrow
  exact ⟨q1, q6 _ _ _ (by omega) (by omega) bl, ((rl.alloc tmp).kept hgrow (own_apart rl ra (by decide))).kept (grownBy_setCell' w2 (z + 1) v1) (.inr (own_ne rl (by omega)).symm), q5.size⟩
/-- A round that gathers. -/
theorem dx.round {z : Nat} {w W w2 w3 : World} {most : Int} {pre : List DX} {x : DX} {F : Nat → Prop} {va vl v1 v2 : Value} {t1 t2 : Obj} (B : Nat)
    (hI : dx.I z w most pre W) (hzw : z ≤ w.heap.size) (hF : ∀ k, F k → k < z)
    (ba : Boxed W (z + 1) 42 va) (ra : W.ownsRow (z + 3) 9 1 va pre.length (dx.strs pre)) (bl : Boxed W (z + 2) 43 vl) (rl : W.ownsRow (z + 3) 3 1 vl pre.length (dx.ints pre))
    (hown1 : w2.ownsRow (z + 3) 9 1 v1 (pre.length + 1) (dx.strs pre ++ [.string x.1])) (hgrow1 : (W.alloc t1).grownBy w2 va.ownBlock) (hl1 : v1.ownBlock = va.ownBlock ∨ v1.ownBlock = some (W.alloc t1).heap.size)
    (hown2 : w3.ownsRow (z + 3) 3 1 v2 (pre.length + 1) (dx.ints pre ++ [.int .i64 x.2])) (hgrow2 : ((w2.setCell ⟨z + 1, 0, none⟩ v1).alloc t2).grownBy w3 vl.ownBlock) (hl2 : v2.ownBlock = vl.ownBlock ∨ v2.ownBlock = some ((w2.setCell ⟨z + 1, 0, none⟩ v1).alloc t2).heap.size) :
    KeepsFrom B W (w3.setCell ⟨z + 2, 0, none⟩ v2) ∧ DKp F [z + 1, z + 2] W (w3.setCell ⟨z + 2, 0, none⟩ v2) ∧ dx.I z w most (pre ++ [x]) (w3.setCell ⟨z + 2, 0, none⟩ v2) := by
  obtain ⟨-, -, hin, bm, hB⟩ := hI
  have hzW : z ≤ W.heap.size := Nat.le_trans hzw hB.size
  obtain ⟨q1, q2, q3, q4, q5, q6⟩ := box_appended (n₀ := z) ba (by omega) (by omega) ra hzW hown1 hgrow1
  have bl1 := q6 _ _ _ (by omega) (by omega) bl
  have rl1 : (w2.setCell ⟨z + 1, 0, none⟩ v1).ownsRow (z + 3) 3 1 vl pre.length (dx.ints pre) := ((rl.alloc t1).kept hgrow1 (own_apart rl ra (by decide))).kept (grownBy_setCell' w2 (z + 1) v1) (.inr (own_ne rl (by omega)).symm)
  have bm1 := q6 _ _ _ (by omega) (by omega) bm
  have hz1 := q5.size
  have c1 : Chg W (w2.setCell ⟨z + 1, 0, none⟩ v1) (fun k => k = z + 1 ∨ k = z + 2 ∨ va.ownBlock = some k ∨ vl.ownBlock = some k) :=
    ((Chg.alloc W t1 (fun k => k = z + 1 ∨ k = z + 2 ∨ va.ownBlock = some k ∨ vl.ownBlock = some k)).trans (Chg.grown hgrow1) fun k _ h => .inr (.inr (.inl h))).trans (Chg.setCell w2 (z + 1) 0 v1) fun k _ h => .inl h
  generalize w2.setCell ⟨z + 1, 0, none⟩ v1 = W1 at *
  obtain ⟨p1, p2, p3, p4, p5, p6⟩ := box_appended (n₀ := z) bl1 (by omega) (by omega) rl1 (by omega) hown2 hgrow2
  have ba2 := p6 _ _ _ (by omega) (by omega) q2
  have bm2 := p6 _ _ _ (by omega) (by omega) bm1
  have ra2 : (w3.setCell ⟨z + 2, 0, none⟩ v2).ownsRow (z + 3) 9 1 v1 (pre.length + 1) (dx.strs pre ++ [.string x.1]) := ((q3.alloc t2).kept hgrow2 (own_apart q3 rl1 (by decide))).kept (grownBy_setCell' w3 (z + 2) v2) (.inr (own_ne q3 (by omega)).symm)
  have c2 : Chg W (w3.setCell ⟨z + 2, 0, none⟩ v2) (fun k => k = z + 1 ∨ k = z + 2 ∨ va.ownBlock = some k ∨ vl.ownBlock = some k) :=
    ((c1.trans (Chg.alloc W1 t2 (fun _ => False)) fun k _ h => h.elim).trans (Chg.grown hgrow2) fun k _ h => .inr (.inr (.inr h))).trans (Chg.setCell w3 (z + 2) 0 v2) fun k _ h => .inr (.inl h)
  have hz2 := p5.size
  generalize w3.setCell ⟨z + 2, 0, none⟩ v2 = V at *
  have hbs : ∀ b ∈ [z + 1, z + 2], b = z + 1 ∨ b = z + 2 := fun b hb => by simpa using hb
  have hkept : Kept [z + 1, z + 2] W V := Kept.boxes c2 (fun k hk => by
      rcases hk with rfl | rfl | hk | hk
      · exact .inl (by simp)
      · exact .inl (by simp)
      · exact .inr ⟨z + 1, by simp, by rw [boxOf_boxed ba]; exact hk⟩
      · exact .inr ⟨z + 2, by simp, by rw [boxOf_boxed bl]; exact hk⟩) fun b hb => by
    rcases hbs b hb with rfl | rfl
    · refine ⟨.of_boxed ba2, fun k e => ?_⟩
      rw [boxOf_boxed ba2] at e
      refine ⟨(ra2.lt k e).2, ?_⟩
      rcases hl1 with h | h
      · exact .inl ⟨z + 1, by simp, by rw [boxOf_boxed ba, ← h]; exact e⟩
      · rw [h] at e
        have e : (W.alloc t1).heap.size = k := by simpa using e
        refine .inr ?_
        rw [← e, World.size_alloc]
        omega
    · refine ⟨.of_boxed p2, fun k e => ?_⟩
      rw [boxOf_boxed p2] at e
      refine ⟨(p3.lt k e).2, ?_⟩
      rcases hl2 with h | h
      · exact .inl ⟨z + 2, by simp, by rw [boxOf_boxed bl, ← h]; exact e⟩
      · rw [h] at e
        have e : (W1.alloc t2).heap.size = k := by simpa using e
        refine .inr ?_
        rw [← e, World.size_alloc]
        omega
  refine ⟨(q4.trans p4).from B, ⟨hkept, c2.mono fun k _ hk hf => ?_⟩, ⟨v1, ba2, ?_⟩, ⟨v2, p2, ?_⟩, hkept.2.2.2 hin, bm2, hB.trans (q5.trans p5)⟩
  · have h1 := hF k hf
    rcases hk with rfl | rfl | hk | hk
    · omega
    · omega
    · have := (ra.lt k hk).1
      omega
    · have := (rl.lt k hk).1
      omega
  · unfold dx.strs
    rw [List.map_append, List.length_append]
    exact ra2
  · unfold dx.ints
    rw [List.map_append, List.length_append]
    exact p3
theorem dx.info1 : (Try.prog.info? 9).map (fun i => (i.zero, i.size, i.bytes)) = some (some (.string (ByteArray.mk #[])), 1, 16) := by kernel_rfl
theorem dx.info2 : (Try.prog.info? 3).map (fun i => (i.zero, i.size, i.bytes)) = some (some (.int .i64 0), 1, 8) := by kernel_rfl
end
section
open Go.RowKit
set_option maxRecDepth 20000
attribute [local go_sem] Oper.semAt_some

theorem dx.out {z : Nat} {w : World} {most : Int} {pre : List DX} {W : World} (h : dx.I z w most pre W) :
    ∃ Aa ca Al cl, Boxed W (z + 1) 42 (.slice Aa pre.length ca) ∧ Boxed W (z + 2) 43 (.slice Al pre.length cl) ∧ pre.length ≤ ca ∧ pre.length ≤ cl ∧
      Dep (fun _ => True) W (fun U => At U Aa pre.length (fun j => (dx.strs pre).getD j undef) ∧ At U Al pre.length (fun j => (dx.ints pre).getD j undef)) := by
  obtain ⟨⟨va, h1, h2⟩, ⟨vl, h3, h4⟩, h5, h7, h8⟩ := h
  obtain ⟨Aa, ca, rfl, hca, hata⟩ := own_at h2
  obtain ⟨Al, cl, rfl, hcl, hatl⟩ := own_at h4
  exact ⟨Aa, ca, Al, cl, h1, h3, hca, hcl, Dep.both (Dep.at' (Nat.mul_one pre.length ▸ hata) fun _ _ _ _ => trivial) (Dep.at' (Nat.mul_one pre.length ▸ hatl) fun _ _ _ _ => trivial)⟩
/-- What walk answers: as many of the walk as are asked for. -/
def dx.WPost (S : List DX) (most : Int) (w : World) (e : Ending) (w' : World) : Prop :=
  ∃ (xs : List DX) (Aa : Option Addr) (ca : Nat) (Al : Option Addr) (cl : Nat), xs = S.take most.toNat ∧ e = .returned (.tuple #[.slice Aa xs.length ca, .slice Al xs.length cl]) ∧
    At w' Aa xs.length (fun j => (dx.strs xs).getD j undef) ∧ At w' Al xs.length (fun j => (dx.ints xs).getD j undef) ∧ xs.length ≤ ca ∧ xs.length ≤ cl ∧ Below w.heap.size w w'
set_option maxRecDepth 100000 in
set_option maxHeartbeats 4000000 in
theorem law4.walk_any (p : Nat) (M : RDisk) (F : Nat → Prop) (n : Nat) (most : Int) (w : World) (h : PDisk w p M F n) (hn : n ≤ 100000) (hmost : 0 ≤ most) :
    Calls Try.prog 18 #[.pointer (some ⟨p, 0, none⟩), .int .i64 most] w (dx.WPost M.shown most w) := by
  refine (callsIn_wide (n := 5)).1 ?_
  have h1 : 1 ≤ 5 := by omega
  refine callsIn_of_wp_marks Try.func18 rfl trivial ?_ rfl
  simp only [Try.ntmps18, List.size_toArray, List.length_cons, List.length_nil, Nat.reduceAdd, Nat.reduceSub, Array.replicate_succ, Array.replicate_zero, List.push_toArray, List.append_toArray, List.nil_append, List.cons_append]
  have hnil : ∀ (Bs : Nat) (w : World), (binOp BinOp.eql 90 (.func (.func 59) #[] #[.pointer (some ⟨Bs, 0, none⟩)]) .nilFunc).run Try.prog w = .ok (.bool false) w := fun _ _ => by kernel_rfl
  have hfl : ∀ k, F k → k < w.heap.size := h.up.2.2.1
  have hSl : M.shown.length ≤ 100000 := by
    obtain ⟨D, ι, m', -, -, -, -, -, h6, -⟩ := h
    unfold RDisk.shown
    rw [List.length_map]
    omega
  have HP := Lib.hid (And.intro h hfl); clear h hfl
  gi_wp2_with fail
  obtain ⟨w0, hw0⟩ : ∃ w0, w0 = ((w.alloc (.cells #[.int .i64 most] 3)).alloc (.cells #[.slice none 0 0] 42)).alloc (.cells #[.slice none 0 0] 43) := ⟨_, rfl⟩
  rw [← hw0]
  have hB0 : Below w.heap.size w w0 := by rw [hw0]; exact (((Below.refl _ w).alloc (Nat.le_refl _) _).alloc (by simp) _).alloc (by simp; omega) _
  have bM : Boxed w0 w.heap.size 3 (.int .i64 most) := by rw [hw0]; exact ((Boxed.new w _ _).alloc _).alloc _
  have bA : Boxed w0 (w.heap.size + 1) 42 (.slice none 0 0) := by
    rw [hw0]
    have h := Boxed.new (w.alloc (.cells #[.int .i64 most] 3)) 42 (.slice none 0 0)
    rw [World.size_alloc] at h
    exact h.alloc _
  have bL : Boxed w0 (w.heap.size + 2) 43 (.slice none 0 0) := by
    rw [hw0]
    have h := Boxed.new ((w.alloc (.cells #[.int .i64 most] 3)).alloc (.cells #[.slice none 0 0] 42)) 43 (.slice none 0 0)
    rw [World.size_alloc, World.size_alloc] at h
    exact h
  have hz0 : w0.heap.size = w.heap.size + 3 := by rw [hw0]; simp
  clear hw0
  refine ⟨trivial, ?_⟩
  refine (callsIn_wide.2 (disk.All_any (some ⟨p, 0, none⟩) w0)).mono ?_
  rintro e w1 ⟨rfl, hw1⟩
  have hb1 : Below w0.heap.size w0 w1 := by rw [hw1]; exact (Below.refl _ _).alloc (Nat.le_refl _) _
  have hkp : Blk w1 (w.heap.size + 3) 25 #[.pointer (some ⟨p, 0, none⟩)] := by rw [hw1, ← hz0]; exact Blk.new _ _ _
  have hbx : ∀ {b : Nat} {t : TypeId} {v : Value}, Boxed w0 b t v → Boxed w1 b t v := fun h => h.kept (grown_by hb1) (by simp)
  have bM1 := hbx bM
  have bA1 := hbx bA
  have bL1 := hbx bL
  have hB1 : Below w.heap.size w w1 := hB0.trans (hb1.mono hB0.size)
  have hz1 : w1.heap.size = w.heap.size + 4 := by rw [hw1]; simp; omega
  have hbs : ∀ b ∈ [w.heap.size + 1, w.heap.size + 2], b = w.heap.size + 1 ∨ b = w.heap.size + 2 := fun b hb => by simpa using hb
  have hnb : ∀ b ∈ [w.heap.size + 1, w.heap.size + 2], boxOf w1 b = none := fun b hb => by
    rcases hbs b hb with rfl | rfl
    · rw [boxOf_boxed bA1]; rfl
    · rw [boxOf_boxed bL1]; rfl
  have hin : InB [w.heap.size + 1, w.heap.size + 2] w1 := fun b hb => ⟨by
    rcases hbs b hb with rfl | rfl
    · exact .of_boxed bA1
    · exact .of_boxed bL1, fun k e => by rw [hnb b hb] at e; cases e⟩
  have hsafe : ∀ k, w.heap.size + 3 ≤ k → Safe [w.heap.size + 1, w.heap.size + 2] w1 k := fun k hk => ⟨fun h => by
    rcases hbs k h with rfl | rfl <;> omega, fun b hb e => by rw [hnb b hb] at e; cases e⟩
  have hsrc : DSrc F [w.heap.size + 1, w.heap.size + 2] (w.heap.size + 3) p M n w1 := ⟨hkp, hsafe _ (Nat.le_refl _), hin, HP.out.1.below hB1⟩
  rw [hz0]
  clear bM bA bL hbx hkp hnb hsafe hw1 hz0
  have hnil' := hnil (w.heap.size + 3)
  clear hnil
  gi_wp2_with fail
  refine for_each (F := Fence.wide) (n := 5) rfl h1 (gf := 59) (lb := #[.pointer (some ⟨w.heap.size + 3, 0, none⟩)]) rfl trivial (enters_of Try.func59 (by kernel_rfl) rfl)
    (disk.hands 4 (by omega) (w.heap.size + 3) p M F [w.heap.size + 1, w.heap.size + 2] n w1 hn hsrc) (Below.refl _ _) DKp.trans
    (fun W l o o' hl ho hcc _ => DKp.put ho hcc (fun b hb => by rcases hbs b hb with rfl | rfl <;> omega) (fun hk => by have := HP.out.2 l hk; omega)) (fun _ => rfl)
    (fun pre W => dx.I w.heap.size w most pre W ∧ (pre.length : Int) ≤ most) (fun cd pre W => cd = .exit 0 ∧ ∃ pre0 x, pre = pre0 ++ [x] ∧ most = (pre0.length : Int) ∧ dx.I w.heap.size w most pre0 W)
    (OwnFrom.and (dx.I_own _ _ _ _ (Nat.le_refl _) (by omega)) (fun _ _ _ _ h _ _ => h)) (fun cd s X Y row hs hg hr => by
      obtain ⟨h1, pre0, x, h2, h3, h4⟩ := hs
      exact ⟨h1, pre0, x, h2, h3, dx.I_own _ _ _ w1.heap.size (Nat.le_refl _) (by omega) pre0 X Y row h4 hg hr⟩) (fun _ _ _ _ h _ _ => h) (fun _ _ _ _ h _ _ => h) (fun _ _ _ _ h _ _ => h)
    ⟨⟨⟨_, bA1, World.ownsRow_nil _ _ _ _⟩, ⟨_, bL1, World.ownsRow_nil _ _ _ _⟩, hin, bM1, hB1⟩, hmost⟩
    (fun x => { tmps := #[.pointer (some ⟨p, 0, none⟩), .int .i64 most, undef, .pointer (some ⟨w.heap.size, 0, none⟩), .slice none 0 0, .slice none 0 0, .pointer (some ⟨w.heap.size + 1, 0, none⟩), .pointer (some ⟨w.heap.size + 1 + 1, 0, none⟩), .func (.func 59) #[] #[.pointer (some ⟨w.heap.size + 3, 0, none⟩)], .string x.1, .int .i64 x.2, .pointer (some ⟨p, 0, none⟩), .func (.func 59) #[] #[.pointer (some ⟨w.heap.size + 3, 0, none⟩)], .func (.func 59) #[] #[.pointer (some ⟨w.heap.size + 3, 0, none⟩)], .bool false, .func (.func 59) #[] #[.pointer (some ⟨w.heap.size + 3, 0, none⟩)], .string x.1, .int .i64 x.2, undef, undef, undef, undef, undef, undef, undef, undef, undef, undef, undef, undef, undef, undef], defers := [] }) ?assign ?body ?done ?stop
  case assign =>
    rintro l ⟨s, v⟩ W K hK
    unfold dx.encs
    dsimp only at hK ⊢
    gi_wp2
    exact hK
  case body =>
    rintro l pre ⟨s, v⟩ W ⟨hI, hle⟩ hR hlt
    dsimp only
    obtain ⟨⟨va, ba, ra⟩, ⟨vl, bl, rl⟩, -, bm, hB⟩ := id hI
    obtain ⟨Aa, ca, rfl, hca, -⟩ := own_at ra
    obtain ⟨Al, cl, rfl, hcl, -⟩ := own_at rl
    have cA := ba.cell
    have cL : W.cell? ⟨w.heap.size + 1 + 1, 0, none⟩ = some (.slice Al pre.length cl) := bl.cell
    have cM := bm.cell
    have hzW := hB.size
    have hplen : pre.length ≤ 100000 := by
      obtain ⟨rest, hr⟩ := hlt
      have := congrArg List.length hr
      simp only [List.length_append, List.length_cons] at this
      omega
    by_cases hb : most ≤ (pre.length : Int)
    · have HI := Lib.hid hI; clear hI
      gi_wp2
      exact ⟨KeepsFrom.refl _ _, DKp.below HI.out.2.2.1 (Below.refl _ _), rfl, pre, _, rfl, by omega, HI.out⟩
    · obtain ⟨i0, hi, hz0, hz1', hz2⟩ := info_parts dx.info1
      obtain ⟨j0, hj, hj0, hj1, hj2⟩ := info_parts dx.info2
      have HI0 := Lib.hid (And.intro hi (And.intro hz0 (And.intro hz1' hz2))); clear hi hz0 hz1' hz2
      have HJ0 := Lib.hid (And.intro hj (And.intro hj0 (And.intro hj1 hj2))); clear hj hj0 hj1 hj2
      have HI := Lib.hid (And.intro hI hR); clear hI hR
      gi_wp2_with (first
        | (gi_at_builtin; (refine wpListIn_append_own_at _ rfl (.tmp 22) (.tmp 24) 42 rfl (w.heap.size + 3) 9 i0 _ 1 16 Try.underlying42 HI0.out.1 HI0.out.2.1 HI0.out.2.2.1 HI0.out.2.2.2 rfl (by decide) _ _ _ rfl (ra.alloc _) ⟨W.heap.size, 0, none⟩ 1 1 [.string s] rfl rfl (cell_one_new _ _ _) (by simp [Value.oneCell']) (by unfold maxLen; omega) (by omega) (by have := bl.lt; simp; omega) ?_); intro v1 w2 hown1 hgrow1 _ hl1; obtain ⟨g1, cap1, hv1⟩ := ownsRow_succ hown1; subst hv1; obtain ⟨q1, q2, q3, q5⟩ := dx.mid hzW ba ra bl rl hown1 hgrow1; have q5' : W.heap.size ≤ w2.heap.size := (by simpa using q5); have e1 := q1.cell; have f1 := q1.frozen; have cL2 : (w2.setCell ⟨w.heap.size + 1, 0, none⟩ (.slice (some ⟨g1, 0, none⟩) (pre.length + 1) cap1)).cell? ⟨w.heap.size + 1 + 1, 0, none⟩ = some (.slice Al pre.length cl) := q2.cell; clear q1; have HQ := Lib.hid (And.intro q2 (And.intro q3 (And.intro hown1 (And.intro hgrow1 hl1)))); clear q2 q3 hown1 hgrow1 hl1)
        | (gi_at_builtin; go_loud (refine wpListIn_append_own_at _ rfl (.tmp 26) (.tmp 28) 43 rfl (w.heap.size + 3) 3 j0 (.int .i64 0) 1 8 Try.underlying43 HJ0.out.1 HJ0.out.2.1 HJ0.out.2.2.1 HJ0.out.2.2.2 rfl (by decide) _ _ _ rfl (HQ.out.2.1.alloc _) ⟨w2.heap.size, 0, none⟩ 1 1 [.int .i64 v] rfl rfl (cells_new _ [.int .i64 v] _ _ (by simp)) (by simp [Value.oneCell']) (by unfold maxLen; omega) (by omega) (by have := bl.lt; simp; omega) ?_); go_loud (intro v2 w3 hown2 hgrow2 _ hl2; obtain ⟨g2, cap2, hv2⟩ := ownsRow_succ hown2; subst hv2; have hround := dx.round (z := w.heap.size) (w := w) (W := W) (w2 := w2) (w3 := w3) (most := most) (pre := pre) (x := (s, v)) (F := F) (w.heap.size + 4) HI.out.1 (Nat.le_refl _) HP.out.2 ba ra bl rl HQ.out.2.2.1 HQ.out.2.2.2.1 HQ.out.2.2.2.2 hown2 hgrow2 hl2; have HR := Lib.hid hround; clear hround; have hne2 : some (w.heap.size + 2) ≠ (Value.slice Al pre.length cl).ownBlock := own_ne rl (by omega); have hbx : Boxed w3 (w.heap.size + 2) 43 (.slice Al pre.length cl) := (HQ.out.1.alloc _).kept hgrow2 hne2; have e2 : w3.cell? ⟨w.heap.size + 1 + 1, 0, none⟩ = some (.slice Al pre.length cl) := hbx.cell; have f2 : w3.frozen? ⟨w.heap.size + 1 + 1, 0, none⟩ = false := hbx.frozen)))
      exact ⟨HR.out.1, HR.out.2.1, HR.out.2.2, by rw [List.length_append]; simp; omega⟩
  case done =>
    rintro D xs W hD hS ⟨hI, hle⟩ hK
    obtain ⟨Aa, ca, Al, cl, ba, bl, hca, hcl, hdep⟩ := dx.out hI
    have hB : Below w.heap.size w W := hI.2.2.2.2
    have cA := ba.cell
    have cL : W.cell? ⟨w.heap.size + 1 + 1, 0, none⟩ = some (.slice Al xs.length cl) := bl.cell
    have hd : xs = M.shown.take most.toNat := by
      have hS : xs = M.shown := hS
      rw [hS, List.take_of_length_le]
      rw [← hS]
      omega
    have HH := Lib.hid (And.intro hd (And.intro hdep hB)); clear hd hdep hB hI hS
    gi_wp2_with fail
    gi_region
    gi_wp2_with fail
    refine ⟨by simp, .inl ⟨_, _, rfl, run_takeDeferred (show W.drew.heap[D]? = _ from hK), ?_⟩⟩
    refine ⟨_, results_tmps2 (t := 4) (u := 5) rfl _ _ _, ?_⟩
    have hat := (show Dep (fun _ => True) W.drew _ from HH.out.2.1).put (o' := .deferred none) (show W.drew.heap[D]? = _ from hK) rfl
    exact ⟨xs, Aa, ca, Al, cl, HH.out.1, rfl, hat.1, hat.2, hca, hcl, (bdrew HH.out.2.2 1).trans (belowK_b (w := w) (Nat.le_refl _) W.drew D _ _ (by omega) hK rfl rfl)⟩
  case stop =>
    rintro D cd pre W hD hpre ⟨rfl, pre0, x, rfl, hmo, hI⟩ hK
    obtain ⟨Aa, ca, Al, cl, ba, bl, hca, hcl, hdep⟩ := dx.out hI
    have hB : Below w.heap.size w W := hI.2.2.2.2
    have cA := ba.cell
    have cL : W.cell? ⟨w.heap.size + 1 + 1, 0, none⟩ = some (.slice Al pre0.length cl) := bl.cell
    have hd : pre0 = M.shown.take most.toNat := by
      obtain ⟨rest, hr⟩ := hpre
      rw [← hr, List.append_assoc, List.take_append_of_le_length (by omega), List.take_of_length_le (by omega)]
    have HH := Lib.hid (And.intro hd (And.intro hdep hB)); clear hd hdep hB hI hpre
    gi_wp2_with fail
    gi_region
    gi_wp2_with fail
    refine ⟨by simp, .inl ⟨_, _, rfl, run_takeDeferred (show W.drew.heap[D]? = _ from hK), ?_⟩⟩
    refine ⟨_, results_tmps2 (t := 4) (u := 5) rfl _ _ _, ?_⟩
    have hat := (show Dep (fun _ => True) W.drew _ from HH.out.2.1).put (o' := .deferred none) (show W.drew.heap[D]? = _ from hK) rfl
    exact ⟨pre0, Aa, ca, Al, cl, HH.out.1, rfl, hat.1, hat.2, hca, hcl, (bdrew HH.out.2.2 1).trans (belowK_b (w := w) (Nat.le_refl _) W.drew D _ _ (by omega) hK rfl rfl)⟩
end
section
open Go.RowKit Go.Maps
set_option maxRecDepth 100000

set_option maxHeartbeats 4000000 in
theorem alike.texts_same (A B : Option Addr) (n c d : Nat) (l : List ByteArray) (w : World) (hl : l.length = n) (hn : n ≤ 1000000) (hA : At w A n (fun j => (l.map Value.string).getD j undef)) (hB : At w B n (fun j => (l.map Value.string).getD j undef)) :
    Calls Try.prog 42 #[.slice A n c, .slice B n d] w fun e w' => e = .returned (.bool true) ∧ Below w.heap.size w w' ∧ w'.heap.size = w.heap.size := by
  have HAB := Lib.hid (And.intro hA (And.intro hB hl)); clear hA hB hl
  go_enter Try.func42, Try.ntmps42
  go_wp2_with fail
  go_loopw [5] (fun i wr => ∃ (j : Nat), j ≤ n ∧ i = .int .i64 (j : Int) ∧ Below w.heap.size w wr ∧ wr.heap.size = w.heap.size) (fun i _ => n - (intOf i).toNat)
  case atStart => exact ⟨0, by omega, rfl, Below.refl _ _, rfl⟩
  case round =>
    obtain ⟨j, hj, rfl, hb, hs⟩ := hrel
    by_cases hlt : j < n
    · have hlt' : (j : Int) < (n : Int) := by omega
      obtain ⟨ga, oa, rfl, hga, ha⟩ := (HAB.out.1.below hb (Nat.le_refl _)) (by omega)
      obtain ⟨gb, ob, rfl, hgb, hbb⟩ := (HAB.out.2.1.below hb (Nat.le_refl _)) (by omega)
      obtain ⟨s, hsj⟩ : ∃ s, (l.map Value.string).getD j undef = .string s := ⟨l[j]'(by rw [HAB.out.2.2]; exact hlt), by rw [List.getD_eq_getElem?_getD, List.getElem?_map, List.getElem?_eq_getElem (by rw [HAB.out.2.2]; exact hlt)]; rfl⟩
      have d1 : wr.cell? ⟨ga, oa + j, none⟩ = some (.string s) := (ha j hlt).trans (congrArg some hsj)
      have d2 : wr.cell? ⟨gb, ob + j, none⟩ = some (.string s) := (hbb j hlt).trans (congrArg some hsj)
      clear ha hbb hsj
      have HS := Lib.hid (And.intro hb hs); clear hb hs
      go_upto_region 6 with fail
      go_quiet (fail)
      go_wp2_with fail
      go_roundw
      case rel => exact ⟨j + 1, by omega, by go_num, bdrew HS.out.1 _, HS.out.2⟩
      case measure => simp [intOf]; omega
    · obtain rfl : j = n := by omega
      have HS := Lib.hid (And.intro hb hs); clear hb hs
      go_wp2_with fail
      go_ret
      exact ⟨rfl, HS.out.1, HS.out.2⟩
theorem dx.strs_shown (M : RDisk) : dx.strs M.shown = (M.now.map Prod.fst).map Value.string := by
  unfold dx.strs RDisk.shown
  rw [List.map_map, List.map_map]
  rfl
end
end Go.Proofs.Ythffkbcjidbdaaa

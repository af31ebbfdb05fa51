/- net: the iterator of All; Waiting. -/
import Derived.Stop.RegionWithIn
import Derived.Sort.QuietIn
import Derived.Sort.BigQuietIn
import Derived.BigFrameIn
import Derived.BigGuardIn
import Derived.Test.YtbbekgliaedigaaNetF
namespace Go.Proofs.Ytbbekgliaedigaa
open Go.RowKit
set_option maxRecDepth 20000

/-- What a round of a walk over what waits leaves alone: blocks of these types. -/
def NTy (T : TypeId) : Prop := T = 90 ∨ T = 147 ∨ T = 149 ∨ T = 5
def NKp (A B : World) : Prop := A.heap.size ≤ B.heap.size ∧ ∀ (k : Nat) (cs : Array Value) (T : TypeId) (fr : Nat × Nat), A.heap[k]? = some (.cells cs T fr) → NTy T → B.heap[k]? = some (.cells cs T fr)
theorem NKp.trans {A B C : World} (h : NKp A B) (g : NKp B C) : NKp A C := ⟨Nat.le_trans h.1 g.1, fun k cs T fr hk ht => g.2 k cs T fr (h.2 k cs T fr hk ht) ht⟩
theorem NKp.below {A B : World} (h : Below A.heap.size A B) : NKp A B := ⟨h.size, fun k _ _ _ hk _ => (h.block k (heap_in hk)).trans hk⟩
theorem NKp.put {W : World} {l : Nat} {o o' : Obj} (hl : W.heap[l]? = some o) (ho : o.isCells = false) : NKp W (W.putObj l o') := by
  refine ⟨by simp, fun k cs T fr hk _ => ?_⟩
  by_cases e : k = l
  · subst e
    rw [hl] at hk
    cases hk
    cases ho
  · rw [World.putObj_heap_other e]
    exact hk
theorem NKp.grown {A B : World} {row : Option Nat} (hg : A.grownBy B row) (hr : ∀ r, row = some r → ∃ o : Obj, A.heap[r]? = some o ∧ o.isCells = false) : NKp A B :=
  ⟨hg.size, fun _ _ _ _ hk _ => (grown_cells hg hr ⟨_, hk, rfl⟩).trans hk⟩
theorem NKp.chg {A B : World} {P : Nat → Prop} (h : Chg A B P) (hp : ∀ k, P k → ∃ (cs : Array Value) (T : TypeId) (fr : Nat × Nat), A.heap[k]? = some (.cells cs T fr) ∧ ¬ NTy T) : NKp A B :=
  ⟨h.size, fun k cs T fr hk ht => (h.block k (heap_in hk) fun hh => by
    obtain ⟨cs', T', fr', h1, h2⟩ := hp k hh
    rw [hk] at h1
    simp at h1
    exact h2 (h1.2.1 ▸ ht)).trans hk⟩
theorem NKp.blk {A B : World} (h : NKp A B) {p : Nat} {T : TypeId} {cs : Array Value} (hb : Blk A p T cs) (ht : NTy T) : Blk B p T cs := h.2 p _ T _ hb ht
theorem NKp.own {A B : World} (h : NKp A B) {base s n : Nat} {e : TypeId} {v : Value} {xs : List Value} (hr : A.ownsRow base e s v n xs) (ht : NTy e) : B.ownsRow base e s v n xs := by
  refine ⟨hr.1, ?_⟩
  rcases hr.2 with h2 | ⟨g, cap, cur, h1, h3, h4, h5⟩
  · exact .inl h2
  · exact .inr ⟨g, cap, cur, h1, h3, h.2 g _ _ _ h4 ht, h5⟩

/-- Whence a walk comes. -/
structure NSrc (B C Bp p : Nat) (rv : Value) (n : Nat) (cs : Array Value) (l : List NItm) (W : World) : Prop where
  box : Blk W Bp 90 #[.pointer (some ⟨p, 0, none⟩)]
  st : Blk W p 147 cs
  row : W.ownsRow B 149 3 rv n (net.row l)
  bytes : NBytes C W l
theorem NSrc.keep {B C Bp p n : Nat} {rv : Value} {cs : Array Value} {l : List NItm} {W V : World} (h : NSrc B C Bp p rv n cs l W) (hk : NKp W V) : NSrc B C Bp p rv n cs l V :=
  ⟨hk.blk h.box (.inl rfl), hk.blk h.st (.inr (.inl rfl)), hk.own h.row (.inr (.inr (.inl rfl))), fun x hx hg => ⟨hk.own (h.bytes x hx hg).1 (.inr (.inr (.inr rfl))), (h.bytes x hx hg).2⟩⟩

/-- A value of the walk: a number, its bytes, and where a copy of them lies. -/
abbrev NX := (Int × List Nat) × (Option Addr × Nat)
def net.encs (x : NX) : Array Value := #[.int .i64 x.1.1, .slice x.2.1 x.1.2.length x.2.2]
def net.R (x : NX) (W : World) : Prop := W.ownsRow 0 5 1 (.slice x.2.1 x.1.2.length x.2.2) x.1.2.length (u8s x.1.2)
def net.S (S : List (Int × List Nat)) (xs : List NX) (_ : World) : Prop := xs.map Prod.fst = S
def net.Sp (S : List (Int × List Nat)) (pre : List NX) (_ : World) : Prop := ∃ rest, pre.map Prod.fst ++ rest = S
/-- What may come next. -/
def net.Nx (S : List (Int × List Nat)) (pre : List NX) (x : NX) : Prop := ∃ rest, pre.map Prod.fst ++ x.1 :: rest = S
theorem net.Nx.lt {S : List (Int × List Nat)} {pre : List NX} {x : NX} (h : net.Nx S pre x) : pre.length < S.length ∧ S[pre.length]? = some x.1 := by
  obtain ⟨rest, rfl⟩ := h
  refine ⟨by simp, ?_⟩
  rw [List.getElem?_append_right (by simp)]
  simp
def net.Post (S : List (Int × List Nat)) (J Jx : List NX → World → Prop) (e : Ending) (V : World) : Prop := (∃ v, e = .returned v) ∧ ((∃ xs, net.S S xs V ∧ J xs V) ∨ (∃ pre, net.Sp S pre V ∧ Jx pre V))
theorem net.says_take {l : List NItm} {j : Nat} {x : NItm} (h : l[j]? = some x) : net.says (l.take (j + 1)) = net.says (l.take j) ++ (if x.gone then [] else [(x.id, x.bs)]) := by
  unfold net.says
  rw [net.left_take l j x h, List.map_append]
  cases x.gone <;> rfl

theorem two_ways {e : Ending} {P Q : Prop} (h : (e = .returned (.bool true) ∧ P) ∨ (e = .returned (.bool false) ∧ Q)) : ∃ b, e = .returned (.bool b) ∧ ((b = true ∧ P) ∨ (b = false ∧ Q)) := by
  rcases h with ⟨rfl, h⟩ | ⟨rfl, h⟩
  · exact ⟨true, rfl, .inl ⟨rfl, h⟩⟩
  · exact ⟨false, rfl, .inr ⟨rfl, h⟩⟩
theorem net.says_split (l : List NItm) (j : Nat) : net.says l = net.says (l.take j) ++ net.says (l.drop j) := by
  unfold net.says net.left
  rw [← List.map_append, ← List.filter_append, List.take_append_drop]
theorem net.says_take_le (l : List NItm) (j : Nat) : (net.says (l.take j)).length ≤ (net.says l).length := by
  unfold net.says net.left
  rw [List.length_map, List.length_map]
  exact ((List.take_sublist j l).filter _).length_le
theorem own_bytes_len {w : World} {base : Nat} {e : TypeId} {v : Value} {n m c : Nat} {A : Option Addr} {L : List Nat} (h : w.ownsRow base e 1 v n (u8s L)) (hv : v = .slice A m c := by rfl) : L.length = m := by
  obtain ⟨A', c', h1, -, h2, -⟩ := own_bytes h
  rw [hv] at h1
  obtain ⟨-, rfl, -⟩ : A = A' ∧ m = n ∧ c = c' := by simpa using h1
  exact h2
theorem own_bytes_le {w : World} {base : Nat} {e : TypeId} {v : Value} {n m c b : Nat} {A : Option Addr} {L : List Nat} (h : w.ownsRow base e 1 v n (u8s L)) (hb : L.length ≤ b) (hbb : b ≤ 140737488351232 := by omega) (hv : v = .slice A m c := by rfl) : m ≤ 140737488351232 := by
  have := own_bytes_len h hv
  omega
theorem own_bytes_at {w : World} {base : Nat} {e : TypeId} {v : Value} {n m c : Nat} {A : Option Addr} {L : List Nat} (h : w.ownsRow base e 1 v n (u8s L)) (hv : v = .slice A m c := by rfl) : At w A m (byteAt L) := by
  obtain ⟨A', c', h1, -, -, h2⟩ := own_bytes h
  rw [hv] at h1
  obtain ⟨rfl, rfl, -⟩ : A = A' ∧ m = n ∧ c = c' := by simpa using h1
  exact h2

set_option maxHeartbeats 4000000 in
theorem net.all1_in (n : Nat) (hn : 2 ≤ n) (l B C Bp p m c : Nat) (A : Option Addr) (a0 a2 a3 : Value) (L : List NItm) (J Jx : List NX → World → Prop) (W : World) (hL : L.length = m) (hm : m ≤ 100000000)
    (hsrc : NSrc B C Bp p (.slice A m c) m #[a0, .slice A m c, a2, a3] L W) (hJ : AbidesFrom W.heap.size J)
    (hY : ∀ pre x V, J pre V → net.R x V → net.Nx (net.says L) pre x → YieldAt Fence.wide (n - 1) Try.prog l (net.encs x) V fun e V' =>
      (e = .returned (.bool true) ∧ J (pre ++ [x]) V' ∧ NKp V V') ∨ (e = .returned (.bool false) ∧ Jx (pre ++ [x]) V' ∧ NKp V V')) (h0 : J [] W) :
    CallsIn Fence.wide n Try.prog 105 #[.func (.yield l) #[] #[], .pointer (some ⟨Bp, 0, none⟩)] W (net.Post (net.says L) J Jx) := by
  refine callsIn_of_wp Try.func105 rfl trivial ?_ rfl
  simp only [Try.ntmps105, List.size_toArray, List.length_cons, List.length_nil, Nat.reduceAdd, Nat.reduceSub, Array.replicate_succ, Array.replicate_zero, List.push_toArray, List.append_toArray, List.nil_append, List.cons_append]
  have hJn : ∀ pre V V', J pre V → Below V.heap.size V V' → J pre V' := fun pre V V' h hb => hJ pre V V' none h (grown_by hb) fun r e => by cases e
  have HJN := Lib.hid hJn; clear hJn hJ
  have HY := Lib.hid hY; clear hY
  have HL := Lib.hid hL; clear hL
  have H0 := Lib.hid h0; clear h0
  have b0 := hsrc.box.cell 0 rfl
  have c1 : W.cell? ⟨p, 1, none⟩ = some (.slice A m c) := hsrc.st.cell 1 rfl
  have HSRC := Lib.hid hsrc; clear hsrc
  gi_wp2_with fail
  clear b0 c1
  gi_loopw [12] (fun s12 wr => ∃ (pre : List NX) (j : Nat), s12 = .int .i64 (j : Int) ∧ j ≤ m ∧ pre.map Prod.fst = net.says (L.take j) ∧ J pre wr ∧ NSrc B C Bp p (.slice A m c) m #[a0, .slice A m c, a2, a3] L wr) (fun s12 _ => m - (intOf s12).toNat)
  case atStart => exact ⟨[], 0, rfl, by omega, rfl, H0.out, HSRC.out⟩
  case round =>
    obtain ⟨pre, j, rfl, hj, hpre, hjj, hsrc⟩ := hrel
    clear HSRC H0
    have HPRE := Lib.hid hpre; clear hpre
    have HJ := Lib.hid hjj; clear hjj
    by_cases hlt : j < m
    · obtain ⟨x, hx⟩ : ∃ x, L[j]? = some x := ⟨_, List.getElem?_eq_getElem (by have := HL.out; omega)⟩
      obtain ⟨g1, c1x, hA, -, -, -, -, -⟩ := own_row_pos hsrc.row (by omega)
      obtain ⟨rfl, rfl⟩ : A = some ⟨g1, 0, none⟩ ∧ c = c1x := by simpa using hA
      clear hA
      obtain ⟨d0, d1, d2, hgl⟩ := net.row_cells hsrc.row hx
      have hst := net.says_take hx
      have hbx := hsrc.bytes x (List.mem_of_getElem? hx)
      have HX := Lib.hid hx; clear hx
      have HSRC := Lib.hid hsrc; clear hsrc
      obtain ⟨id, A, k, cc, gn, bs⟩ := x
      dsimp only at d0 d1 d2 hst hbx
      have HST := Lib.hid hst; clear hst
      cases gn with
      | true =>
        clear hbx
        gi_wp2_with fail
        clear d0 d1 d2
        obtain ⟨w3, hw3⟩ : ∃ w3, w3 = wr.alloc (.cells #[.int .i64 id, .slice A k cc, .bool true] 149) := ⟨_, rfl⟩
        rw [← hw3]
        have hx3 : Blk w3 wr.heap.size 149 #[.int .i64 id, .slice A k cc, .bool true] := by rw [hw3]; exact Blk.new _ _ _
        have hb3 : Below wr.heap.size wr w3 := by rw [hw3]; exact (Below.refl _ _).alloc (Nat.le_refl _) _
        clear hw3
        have e2 : w3.cell? ⟨wr.heap.size, 2, none⟩ = some (.bool true) := hx3.cell 2 rfl
        have e2' : w3.drew.cell? ⟨wr.heap.size, 2, none⟩ = some (.bool true) := hx3.cell 2 rfl
        have HB3 := Lib.hid hb3; clear hb3 hx3
        refine wpIn_region_quiet_lit rfl (by kernel_rfl) (by kernel_rfl) ?_
        repeat (gi_big_quiet_step (fail))
        refine BigFrame.wpQuietIn_skip (fun _ _ _ _ => trivial) (by rfl) ?_
        refine BigFrame.wpQuietIn_skip (fun _ _ _ _ => trivial) (by rfl) ?_
        refine BigFrame.wpQuietIn_skip (fun _ _ _ _ => trivial) (by rfl) ?_
        simp only [Act.put, Array.setIfInBounds, List.size_toArray, List.length_cons, List.length_nil, Nat.reduceAdd, Nat.reduceLT, dite_true, List.set_toArray, List.set_cons_succ, List.set_cons_zero]
        repeat (gi_big_quiet_step (fail))
        refine wpQuietIn_nil ?_
        rintro _ ⟨nq, rfl⟩
        have hbn : Below wr.heap.size wr (w3.drewN nq) := bdrew HB3.out nq
        have HN := Lib.hid (And.intro (HJN.out pre wr _ HJ.out hbn) (HSRC.out.keep (.below hbn))); clear hbn e2 e2'
        gi_wp2_with fail
        go_roundw
        case rel => exact ⟨pre, j + 1, by go_num, by omega, by rw [HST.out]; simpa using HPRE.out, HN.out.1, HN.out.2⟩
        case measure => simp [intOf]; omega
      | false =>
        obtain ⟨hob, hlb⟩ := hbx rfl
        have HOB := Lib.hid hob; clear hob hbx
        gi_wp2_with fail
        clear d0 d1 d2
        obtain ⟨w3, hw3⟩ : ∃ w3, w3 = wr.alloc (.cells #[.int .i64 id, .slice A k cc, .bool false] 149) := ⟨_, rfl⟩
        rw [← hw3]
        have hx3 : Blk w3 wr.heap.size 149 #[.int .i64 id, .slice A k cc, .bool false] := by rw [hw3]; exact Blk.new _ _ _
        have hb3 : Below wr.heap.size wr w3 := by rw [hw3]; exact (Below.refl _ _).alloc (Nat.le_refl _) _
        clear hw3
        have e0 : w3.drew.cell? ⟨wr.heap.size, 0, none⟩ = some (.int .i64 id) := hx3.cell 0 rfl
        have e1 : w3.drew.cell? ⟨wr.heap.size, 1, none⟩ = some (.slice A k cc) := hx3.cell 1 rfl
        have e2 : w3.drew.cell? ⟨wr.heap.size, 2, none⟩ = some (.bool false) := hx3.cell 2 rfl
        have HX3 := Lib.hid hx3; clear hx3
        have HB3 := Lib.hid hb3; clear hb3
        have hcl := clone_any A k cc bs w3.drew (own_bytes_len HOB.out) (own_bytes_le HOB.out hlb) ((own_bytes_at HOB.out).below (bdrew HB3.out 1) (Nat.le_refl _))
        have HCL := Lib.hid hcl; clear hcl
        have hpl : ∀ X, net.Nx (net.says L) pre ((id, bs), X) := fun X => by
          refine ⟨net.says (L.drop (j + 1)), ?_⟩
          have h1 := net.says_split L (j + 1)
          rw [HST.out, if_neg (by simp)] at h1
          rw [HPRE.out, h1]
          simp
        have hnext : ∀ v4 c4 w4, Below w3.drew.heap.size w3.drew w4 → w4.ownsRow w3.drew.heap.size 5 1 (.slice v4 k c4) k (u8s bs) → YieldAt Fence.wide (n - 1) Try.prog l #[.int .i64 id, .slice v4 k c4] w4 fun e V' =>
            (e = .returned (.bool true) ∧ J (pre ++ [((id, bs), (v4, c4))]) V' ∧ NKp w4 V') ∨ (e = .returned (.bool false) ∧ Jx (pre ++ [((id, bs), (v4, c4))]) V' ∧ NKp w4 V') := fun v4 c4 w4 h4 hv4 => by
          have hk := own_bytes_len HOB.out
          have hb4 : Below wr.heap.size wr w4 := (bdrew HB3.out 1).trans (h4.mono HB3.out.size)
          have := HY.out pre ((id, bs), (v4, c4)) w4 (HJN.out pre wr w4 HJ.out hb4) (by unfold net.R; dsimp only; rw [hk]; exact ownsRow_base hv4 (Nat.zero_le _)) (hpl _)
          unfold net.encs at this
          dsimp only at this
          rw [hk] at this
          exact this
        have HNEXT := Lib.hid hnext; clear hnext
        gi_region_with
          (first
          | (refine ⟨trivial, fun _ => by omega, ?_⟩; refine (callsIn_wide.2 HCL.out).mono ?_; rintro e w4 ⟨⟨v, rfl, hv4⟩, hb4⟩; obtain ⟨v4, c4, rfl, -⟩ := own_at hv4; have hy := HNEXT.out v4 c4 w4 hb4 hv4; obtain ⟨fn, tmps, assign, body, hyq, hRq⟩ := hy; have hx4 := (chg_of (P := fun _ => False) hb4).blk (HX3.out.drew 1) (fun h => h); clear e0 e1 e2; have e0 : w4.cell? ⟨wr.heap.size, 0, none⟩ = some (.int .i64 id) := hx4.cell 0 rfl; have HRQ := Lib.hid hRq; clear hRq; have HB4 := Lib.hid hb4; clear hb4 hv4 hx4)
          | (refine ⟨fun _ => by omega, HRQ.out.mono ?_⟩; rintro e W5 hres; obtain ⟨bv, hbv, hr2⟩ := two_ways hres; clear hres; subst hbv; have HRES := Lib.hid hr2; clear hr2 e0 hyq))
        all_goals
          rcases HRES.out with ⟨rfl, hJ3, hk3⟩ | ⟨rfl, hJx3, hk3⟩
          · have hsr : NSrc B C Bp p (.slice (some ⟨g1, 0, none⟩) m c) m #[a0, .slice (some ⟨g1, 0, none⟩) m c, a2, a3] L W5 := (HSRC.out.keep (.below ((bdrew HB3.out 1).trans (HB4.out.mono HB3.out.size)))).keep hk3
            have HK3 := Lib.hid (And.intro hJ3 hsr); clear hJ3 hsr hk3 HRES
            gi_wp2_with fail
            go_roundw
            case rel => exact ⟨pre ++ [((id, bs), (v4, c4))], j + 1, by go_num, by omega, by rw [HST.out, if_neg (by simp), List.map_append, HPRE.out]; rfl, HK3.out.1, HK3.out.2⟩
            case measure => simp [intOf]; omega
          · have HK3 := Lib.hid hJx3; clear hJx3 hk3 HRES
            gi_wp2
            refine bodyPost_ret (results_none rfl _ _ _) rfl ?_
            refine ⟨⟨_, rfl⟩, .inr ⟨pre ++ [((id, bs), (v4, c4))], ⟨net.says (L.drop (j + 1)), ?_⟩, HK3.out⟩⟩
            rw [List.map_append, HPRE.out]
            have h1 := net.says_split L (j + 1)
            rw [HST.out, if_neg (by simp)] at h1
            exact h1.symm
    · obtain rfl : j = m := by omega
      have hend : pre.map Prod.fst = net.says L := by rw [HPRE.out, ← HL.out, List.take_length]
      have HEND := Lib.hid hend; clear hend
      gi_wp2_with fail
      refine bodyPost_ret (results_none rfl _ _ _) rfl ?_
      exact ⟨⟨_, rfl⟩, .inl ⟨pre, HEND.out, HJ.out⟩⟩

theorem net.all_any (p : Option Addr) (w : World) :
    Calls Try.prog 90 #[.pointer p] w fun e w' => e = .returned (.func (.func 105) #[] #[.pointer (some ⟨w.heap.size, 0, none⟩)]) ∧ w' = w.alloc (.cells #[.pointer p] 90) := by
  go_enter Try.func90, Try.ntmps90
  go_wp2
  go_ret
  exact ⟨rfl, rfl⟩
theorem net.R_own (B : Nat) : OwnFrom B net.R := fun _ _ _ _ h hg hr => (NKp.grown hg fun r e => (hr r e).2).own h (.inr (.inr (.inr rfl)))
theorem net.hands (n : Nat) (hn : 2 ≤ n) (B C p last : Nat) (S : List (Int × List Nat)) (w : World) (h : NetS B C w p last S) (hlast : last ≤ 100000000) :
    Hands Fence.wide n Try.prog 105 #[.pointer (some ⟨w.heap.size, 0, none⟩)] net.encs NKp net.R (net.S S) (net.Sp S) (net.Nx S) (w.alloc (.cells #[.pointer (some ⟨p, 0, none⟩)] 90)) := by
  obtain ⟨l, ⟨rv, mb, N, g, hb, hr, -, -, -, hbs, hll, -, -⟩, rfl⟩ := h
  obtain ⟨A, c, rfl, -, -⟩ := own_at hr
  have hsrc : NSrc B C w.heap.size p (.slice A l.length c) l.length #[.int .i64 last, .slice A l.length c, .int .i64 (net.goneN l), .map (some mb)] l (w.alloc (.cells #[.pointer (some ⟨p, 0, none⟩)] 90)) := by
    have hbl : Below w.heap.size w (w.alloc (.cells #[.pointer (some ⟨p, 0, none⟩)] 90)) := (Below.refl _ _).alloc (Nat.le_refl _) _
    exact ⟨Blk.new _ _ _, (NKp.below hbl).blk hb (.inr (.inl rfl)), (NKp.below hbl).own hr (.inr (.inr (.inl rfl))), fun x hx hg => ⟨(NKp.below hbl).own (hbs x hx hg).1 (.inr (.inr (.inr rfl))), (hbs x hx hg).2⟩⟩
  intro lb J Jx W hW hJ _ hY h0
  exact net.all1_in n hn lb B C w.heap.size p l.length c A _ _ _ l J Jx W rfl (by omega) (hsrc.keep (.below hW)) hJ hY h0
end Go.Proofs.Ytbbekgliaedigaa

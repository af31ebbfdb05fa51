/- Contract of the iterator that batch.Walk hands back: the batches of the walk, one after the other, each in a row of its own. -/
import Derived.Test.YtndingohckcmdaaBrA
import Derived.Test.YtndingohckcmdaaEachB
import Derived.RangeFuncLeaves
import Derived.Shelf.Abstract
import Derived.OwnWalkIn
import Derived.TacticsInMore
import Derived.LoopNIn
import Derived.LoopIn
import Derived.Maps.AppendAt
namespace Go.Proofs.Ytndingohckcmdaa
open Go.RowKit

/-- The batches from at on, with rising offsets; and where each begins. -/
def dec.walkG (o : Option (Bat × Nat)) (at' : Nat) (ahead : Int) (k : Nat → Int → List (Nat × Bat)) : List (Nat × Bat) :=
  match o with
  | none => []
  | some (b, u) => if b.base ≤ ahead then [] else (at', b) :: k (at' + u) b.last
def dec.walkF : Nat → List Nat → Nat → Int → List (Nat × Bat)
  | 0, _, _, _ => []
  | g + 1, L, at', ahead => dec.walkG (dec.first (L.drop at')) at' ahead (dec.walkF g L)
theorem dec.walkF_succ (g : Nat) (L : List Nat) (at' : Nat) (ahead : Int) : dec.walkF (g + 1) L at' ahead = dec.walkG (dec.first (L.drop at')) at' ahead (dec.walkF g L) := by rw [dec.walkF]
def dec.walk (L : List Nat) : List (Nat × Bat) := dec.walkF L.length L 0 (-1)
theorem dec.walk_none {L : List Nat} {at' g : Nat} {ahead : Int} (h : dec.first (L.drop at') = none) : dec.walkF g L at' ahead = [] := by
  cases g with
  | zero => rfl
  | succ g => rw [dec.walkF_succ, h]; rfl
theorem dec.walk_low {L : List Nat} {at' g u : Nat} {b : Bat} {ahead : Int} (h : dec.first (L.drop at') = some (b, u)) (hl : b.base ≤ ahead) : dec.walkF g L at' ahead = [] := by
  cases g with
  | zero => rfl
  | succ g => rw [dec.walkF_succ, h]; exact if_pos hl
theorem dec.first_nil : dec.first [] = none := by decide
theorem dec.walk_end {L : List Nat} {at' g : Nat} {ahead : Int} (h : L.length ≤ at') : dec.walkF g L at' ahead = [] :=
  dec.walk_none (by rw [List.drop_eq_nil_of_le h]; exact dec.first_nil)
/-- What is so of a batch that is walked. -/
structure dec.Is (L : List Nat) (at' : Nat) (b : Bat) (u : Nat) : Prop where
  first : dec.first (L.drop at') = some (b, u)
  check : b.check = 0
  low : 50 ≤ u
  fits : at' + u ≤ L.length
  bytes : (L.drop at').take u = b.bytes
  size : (u : Int) = b.size
theorem dec.is_of {L : List Nat} (hL : ∀ x ∈ L, x < 256) {at' u : Nat} {b : Bat} (h : dec.first (L.drop at') = some (b, u)) : dec.Is L at' b u := by
  have hb : ∀ x ∈ L.drop at', x < 256 := fun x hx => hL x (List.mem_of_mem_drop hx)
  obtain ⟨h1, h2, h3⟩ := dec.first_back hb h
  obtain ⟨l1, l2, l3⟩ := Bat.summed_le h1
  have hl : u = b.bytes.length := by rw [← h3, List.length_take]; omega
  have hs := Bat.bytes_len b (Bat.flags_of h1)
  rw [List.length_drop] at h2
  exact ⟨h, h1, by omega, by omega, h3, by rw [hl]; exact hs⟩
theorem dec.walk_step {L : List Nat} (hL : ∀ x ∈ L, x < 256) {at' g u : Nat} {b : Bat} {ahead : Int} (h : dec.first (L.drop at') = some (b, u)) (hl : ahead < b.base) (hg : L.length ≤ at' + g) :
    ∃ g', g = g' + 1 ∧ L.length ≤ at' + u + g' ∧ dec.walkF g L at' ahead = (at', b) :: dec.walkF g' L (at' + u) b.last := by
  have hi := dec.is_of hL h
  have h1 := hi.low
  have h2 := hi.fits
  obtain ⟨g', rfl⟩ : ∃ g', g = g' + 1 := ⟨g - 1, by omega⟩
  refine ⟨g', rfl, by omega, ?_⟩
  rw [dec.walkF_succ, h]
  exact if_neg (by omega)
theorem dec.walkF_is {L : List Nat} (hL : ∀ x ∈ L, x < 256) : ∀ (g at' : Nat) (ahead : Int), ∀ x ∈ dec.walkF g L at' ahead, ∃ u, dec.Is L x.1 x.2 u
  | 0, _, _, x, hx => by cases hx
  | g + 1, at', ahead, x, hx => by
    rw [dec.walkF_succ] at hx
    cases h : dec.first (L.drop at') with
    | none => rw [h] at hx; cases hx
    | some y =>
      obtain ⟨b, u⟩ := y
      rw [h] at hx
      unfold dec.walkG at hx
      dsimp only at hx
      split at hx
      · cases hx
      · rcases List.mem_cons.1 hx with rfl | hx
        · exact ⟨u, dec.is_of hL h⟩
        · exact dec.walkF_is hL g _ _ x hx
theorem dec.walk_is {L : List Nat} (hL : ∀ x ∈ L, x < 256) : ∀ x ∈ dec.walk L, ∃ u, dec.Is L x.1 x.2 u := dec.walkF_is hL _ _ _
theorem dec.walkF_len {L : List Nat} (hL : ∀ x ∈ L, x < 256) : ∀ (g at' : Nat) (ahead : Int), 50 * (dec.walkF g L at' ahead).length ≤ L.length - at'
  | 0, _, _ => Nat.zero_le _
  | g + 1, at', ahead => by
    rw [dec.walkF_succ]
    cases h : dec.first (L.drop at') with
    | none => exact Nat.zero_le _
    | some y =>
      obtain ⟨b, u⟩ := y
      unfold dec.walkG
      dsimp only
      split
      · exact Nat.zero_le _
      · have hi := dec.is_of hL h
        have h1 := hi.low
        have h2 := hi.fits
        have ih := dec.walkF_len hL g (at' + u) b.last
        rw [List.length_cons]
        omega
theorem dec.walk_len {L : List Nat} (hL : ∀ x ∈ L, x < 256) : 50 * (dec.walk L).length ≤ L.length := by
  have := dec.walkF_len hL L.length 0 (-1)
  unfold dec.walk
  omega
/-- How many bytes are whole batches. -/
def dec.good (L : List Nat) : Int := match (dec.walk L).getLast? with | none => 0 | some (at', b) => (at' : Int) + b.size

/-- A row of records leans on blocks laid since B0. -/
theorem RowR.dep {V : World} {B0 : Nat} {v : Value} {rs : List Rec} (h : RowR V B0 v rs) : Dep (fun k => B0 ≤ k ∧ k < V.heap.size) V (fun W => RecsV W v rs) := by
  obtain ⟨xs, h1, h2⟩ := h
  refine ⟨fun k => (B0 ≤ k ∧ k < V.heap.size) ∧ CellsB V k, fun k hk => hk, fun W' hv hs => ?_⟩
  have hat : ∀ {A : Option Addr} {n : Nat} {f : Nat → Value}, At V A n f → (0 < n → ∀ b off, A = some ⟨b, off, none⟩ → B0 ≤ b ∧ b < V.heap.size) → At W' A n f := fun {A n f} ha hz hn => by
    obtain ⟨b, off, hA, hb, hc⟩ := ha hn
    exact ⟨b, off, hA, Nat.lt_of_lt_of_le hb hs, fun j hj => (World.cell?_of_block (hv b ⟨hz hn b off hA, .of_cell (hc 0 hn)⟩)).trans (hc j hj)⟩
  obtain ⟨A, c, rfl, hc, ha⟩ := own_at h1
  refine ⟨A, c, _, rfl, hc, own_cap h1, hat ha fun _ b off e => h1.lt b (by rw [e]; rfl), fun i r hr => ?_⟩
  obtain ⟨kv, vv, e, ⟨⟨A1, c1, rfl, k1, k2, k3, k4⟩, k5⟩, ⟨⟨A2, c2, rfl, m1, m2, m3, m4⟩, m5⟩, q1, q2⟩ := h2 i r hr
  exact ⟨_, _, e, ⟨A1, c1, rfl, hat k1 fun _ b off e => by have := k5 b (by rw [e]; rfl); omega, k2, k3, k4⟩, ⟨A2, c2, rfl, hat m1 fun _ b off e => by have := m5 b (by rw [e]; rfl); omega, m2, m3, m4⟩, q1, q2⟩

open Go.RowKit Go.Shelf
attribute [local go_sem] Oper.semAt_some

/-- A batch that is handed over: where it begins, and where its records lie. -/
abbrev WkX := (Nat × Bat) × (Option Addr × Nat)
def wk.encs (x : WkX) : Array Value := #[.int .i64 (x.1.1 : Int), x.1.2.hval x.2.1 x.1.2.recs.length x.2.2]
def wk.R (Bs : List Nat) (L : List Nat) (x : WkX) (V : World) : Prop := InB Bs V ∧ Dep (Safe Bs V) V (fun U => RecsV U (.slice x.2.1 x.1.2.recs.length x.2.2) x.1.2.recs) ∧ ∃ u, dec.Is L x.1.1 x.1.2 u
def wk.S (L : List Nat) (xs : List WkX) (_ : World) : Prop := xs.map Prod.fst = dec.walk L
def wk.Sp (L : List Nat) (pre : List WkX) (_ : World) : Prop := ∃ rest, pre.map Prod.fst ++ rest = dec.walk L
def wk.Post (L : List Nat) (J Jx : List WkX → World → Prop) (e : Ending) (V : World) : Prop := (∃ v, e = .returned v) ∧ ((∃ xs, wk.S L xs V ∧ J xs V) ∨ (∃ pre, wk.Sp L pre V ∧ Jx pre V))
/-- What the iterator leans on: the box of the bytes, and these. -/
def wk.Src (Bp : Nat) (A : Option Addr) (m c : Nat) (L : List Nat) (V : World) : Prop := Blk V Bp 27 #[.slice A m c] ∧ At V A m (byteAt L)

set_option maxRecDepth 100000 in
set_option maxHeartbeats 4000000 in
theorem bat.walk1_in (n : Nat) (hn : 2 ≤ n) (l Bp : Nat) (Bs : List Nat) (A : Option Addr) (m c : Nat) (L : List Nat) (J Jx : List WkX → World → Prop) (W : World) (hL : ∀ x ∈ L, x < 256) (hlen : L.length = m) (hmc : m ≤ c) (hc : c ≤ maxLen) (hm : m ≤ 1000000)
    (hi : InB Bs W) (hsrc : Dep (Safe Bs W) W (wk.Src Bp A m c L)) (hJ : AbidesFrom W.heap.size J)
    (hY : ∀ pre x V, J pre V → wk.R Bs L x V → pre.length < (dec.walk L).length → YieldAt Fence.wide (n - 1) Try.prog l (wk.encs x) V fun e V' =>
      (e = .returned (.bool true) ∧ J (pre ++ [x]) V' ∧ Kept Bs V V') ∨ (e = .returned (.bool false) ∧ Jx (pre ++ [x]) V' ∧ Kept Bs V V')) (h0 : J [] W) :
    CallsIn Fence.wide n Try.prog 77 #[.func (.yield l) #[] #[], .pointer (some ⟨Bp, 0, none⟩)] W (wk.Post L J Jx) := by
  refine callsIn_of_wp Try.func77 rfl trivial ?_ rfl
  simp only [Try.ntmps77, List.size_toArray, List.length_cons, List.length_nil, Nat.reduceAdd, Nat.reduceSub, Array.replicate_succ, Array.replicate_zero, List.push_toArray, List.append_toArray, List.nil_append, List.cons_append]
  have hJn : ∀ pre V V', J pre V → Below V.heap.size V V' → J pre V' := fun pre V V' h hb => hJ pre V V' none h (grown_by hb) fun r e => by cases e
  have HJN := Lib.hid hJn; clear hJn hJ
  have HY := Lib.hid hY; clear hY
  have HL := Lib.hid hL; clear hL
  have HLEN := Lib.hid hlen; clear hlen
  have HI := Lib.hid hi; clear hi
  have HSRC := Lib.hid hsrc; clear hsrc
  have H0 := Lib.hid h0; clear h0
  unfold maxLen at hc
  gi_wp2_with fail
  gi_loopw [3, 4] (fun s3 s4 wr => ∃ (pre : List WkX) (at' g : Nat) (ahead : Int), s3 = .int .i64 ahead ∧ s4 = .int .i64 (at' : Int) ∧ -1 ≤ ahead ∧ ahead ≤ 4611686018427387904 ∧ at' ≤ m ∧ L.length ≤ at' + g ∧ pre.map Prod.fst ++ dec.walkF g L at' ahead = dec.walk L ∧ J pre wr ∧ InB Bs wr ∧ Dep (Safe Bs wr) wr (wk.Src Bp A m c L)) (fun _ s4 _ => m - (intOf s4).toNat)
  case atStart => exact ⟨[], 0, L.length, -1, rfl, rfl, by omega, by omega, by omega, by omega, rfl, H0.out, HI.out, HSRC.out⟩
  case round =>
    obtain ⟨pre, at', g, ahead, rfl, rfl, ha1, ha2, hatm, hfuel, hwalk, hj, hi, hsrc⟩ := hrel
    clear HI HSRC H0
    have HFUEL := Lib.hid hfuel; clear hfuel
    have HWALK := Lib.hid hwalk; clear hwalk
    have HJ := Lib.hid hj; clear hj
    have HI := Lib.hid hi; clear hi
    have HSRC := Lib.hid hsrc; clear hsrc
    have c1 : wr.cell? ⟨Bp, 0, none⟩ = some (.slice A m c) := HSRC.out.now.1.cell 0 rfl
    by_cases hlt : at' < m
    · obtain ⟨b0, off0, hA, hb0, -⟩ := HSRC.out.now.2 (by omega)
      subst hA
      have hdl : (L.drop at').length = m - at' := by rw [List.length_drop, HLEN.out]
      have hfst := bat.first_any (some ⟨b0, off0 + at', none⟩) (c - at') (L.drop at') wr (by
        rw [hdl]
        have h := Piece.drop (some ⟨b0, off0, none⟩) L at' wr (by rw [HLEN.out]; exact HSRC.out.now.2)
        rw [Option.map_some, add_none, hdl] at h
        exact h) (fun x hx => HL.out x (List.mem_of_mem_drop hx)) (by omega) (by unfold maxLen; omega)
      rw [hdl] at hfst
      have HFST := Lib.hid hfst; clear hfst hdl
      have hca : ¬ c = at' := by omega
      gi_wp2_with fail
      refine ⟨trivial, fun _ => by omega, ?_⟩
      refine (callsIn_wide.2 HFST.out).mono ?_
      rintro e w5 ⟨hres, hb5⟩
      clear c1
      have hj5 := HJN.out pre wr w5 HJ.out hb5
      rcases hres with ⟨hnone, rfl⟩ | ⟨b, u, A', c', hyes, hrow, rfl⟩
      · have hend : pre.map Prod.fst = dec.walk L := by
          have h := HWALK.out
          rw [dec.walk_none hnone, List.append_nil] at h
          exact h
        have HEND := Lib.hid hend; clear hend hnone
        have HJ6 := Lib.hid (fun o => HJN.out pre w5 (w5.alloc o) hj5 ((Below.refl _ _).alloc (Nat.le_refl _) _)); clear hj5
        gi_wp2
        refine ⟨fun f hf => (by cases hf), ?_⟩
        gi_wp2
        refine bodyPost_ret (results_none rfl _ _ _) rfl ?_
        exact ⟨⟨_, rfl⟩, .inl ⟨pre, HEND.out, HJ6.out _⟩⟩
      · have his := dec.is_of HL.out hyes
        obtain ⟨hmay, -, -, -⟩ := Bat.check_ok his.check
        obtain ⟨m0, m1, m2, m3, -⟩ := hmay
        have hu1 := his.low
        have hu2 := his.fits
        rw [HLEN.out] at hu2
        have hi5 := HI.out.below hb5
        have hsrc5 := HSRC.out.belowS HI.out hb5
        have hdep5 : Dep (Safe Bs w5) w5 (fun U => RecsV U (.slice A' b.recs.length c') b.recs) := hrow.dep.weak fun k hk _ => (Safe.new HI.out hk.1).below HI.out hb5
        obtain ⟨nv, hnv⟩ : ∃ nv, nv = b.recs.length := ⟨_, rfl⟩
        unfold Bat.hval
        rw [← hnv] at hdep5 ⊢
        have HNV := Lib.hid hnv; clear hnv hrow
        have hua : ∀ o, Below w5.heap.size w5 (w5.alloc o) := fun o => (Below.refl _ _).alloc (Nat.le_refl _) _
        have hj6 := fun o => HJN.out pre w5 (w5.alloc o) hj5 (hua o)
        have HJ6 := Lib.hid hj6; clear hj6 hj5
        by_cases hlow : b.base ≤ ahead
        · have hend : pre.map Prod.fst = dec.walk L := by
            have h := HWALK.out
            rw [dec.walk_low hyes hlow, List.append_nil] at h
            exact h
          have HEND := Lib.hid hend; clear hend hyes his hua hdep5 hsrc5 hi5
          gi_wp2
          refine ⟨fun f hf => (by cases hf), ?_⟩
          gi_wp2
          refine bodyPost_ret (results_none rfl _ _ _) rfl ?_
          exact ⟨⟨_, rfl⟩, .inl ⟨pre, HEND.out, HJ6.out _⟩⟩
        · have hlow2 : ahead < b.base := by omega
          obtain ⟨g', hg', hfuel2, hwk⟩ := dec.walk_step HL.out (g := g) hyes hlow2 HFUEL.out
          have hwalk2 : (pre ++ [((at', b), (A', c'))]).map Prod.fst ++ dec.walkF g' L (at' + u) b.last = dec.walk L := by
            have h := HWALK.out
            rw [hwk] at h
            rw [List.map_append, List.append_assoc]
            exact h
          have hpl : pre.length < (dec.walk L).length := by
            have h := congrArg List.length hwalk2
            rw [List.length_append, List.length_map, List.length_append] at h
            simp only [List.length_cons, List.length_nil] at h
            omega
          have HWALK2 := Lib.hid hwalk2; clear hwalk2 hwk hg'
          have HFUEL2 := Lib.hid hfuel2; clear hfuel2
          obtain ⟨w6, hw6⟩ : ∃ w6, w6 = w5.alloc (.cells #[.int .i64 b.base, .int .i64 b.last, .int .i64 b.prod, .int .i64 b.epoch, .int .i64 b.seq, .slice A' nv c'] 24) := ⟨_, rfl⟩
          have hb6 : Below w5.heap.size w5 w6 := by rw [hw6]; exact hua _
          have hk6 : Blk w6 w5.heap.size 24 #[.int .i64 b.base, .int .i64 b.last, .int .i64 b.prod, .int .i64 b.epoch, .int .i64 b.seq, .slice A' nv c'] := by rw [hw6]; exact Blk.new _ _ _
          have hj6 : J pre w6 := by rw [hw6]; exact HJ6.out _
          have hi6 := hi5.below hb6
          have hsafe : Safe Bs w6 w5.heap.size := (Safe.new hi5 (Nat.le_refl _)).below hi5 hb6
          have hbox6 : Dep (Safe Bs w6) w6 (fun U => Blk U w5.heap.size 24 #[.int .i64 b.base, .int .i64 b.last, .int .i64 b.prod, .int .i64 b.epoch, .int .i64 b.seq, .slice A' nv c']) := Dep.blk hk6 hsafe
          have hdep6 := hdep5.belowS hi5 hb6
          have hsrc6 := hsrc5.belowS hi5 hb6
          have hR6 : wk.R Bs L ((at', b), (A', c')) w6 := ⟨hi6, by rw [HNV.out] at hdep6; exact hdep6, u, his⟩
          have hy := HY.out pre ((at', b), (A', c')) w6 hj6 hR6 hpl
          unfold wk.encs Bat.hval at hy
          dsimp only at hy
          rw [← HNV.out] at hy
          obtain ⟨fn, tmps, assign, body, hyq, hRq⟩ := hy
          have HI6 := Lib.hid hi6; clear hi6 hi5
          have HBOX6 := Lib.hid hbox6; clear hbox6 hsafe
          have HSRC6 := Lib.hid hsrc6; clear hsrc6 hsrc5
          clear hdep5 hdep6 hR6 hj6 HJ6 hua hyes hb5 hb6
          have HIS := Lib.hid his; clear his
          have g0 : w6.cell? ⟨w5.heap.size, 0, none⟩ = some (.int .i64 b.base) := hk6.cell 0 rfl
          have g1 : w6.cell? ⟨w5.heap.size, 1, none⟩ = some (.int .i64 b.last) := hk6.cell 1 rfl
          have g2 : w6.cell? ⟨w5.heap.size, 2, none⟩ = some (.int .i64 b.prod) := hk6.cell 2 rfl
          have g3 : w6.cell? ⟨w5.heap.size, 3, none⟩ = some (.int .i64 b.epoch) := hk6.cell 3 rfl
          have g4 : w6.cell? ⟨w5.heap.size, 4, none⟩ = some (.int .i64 b.seq) := hk6.cell 4 rfl
          have g5 : w6.cell? ⟨w5.heap.size, 5, none⟩ = some (.slice A' nv c') := hk6.cell 5 rfl
          clear hk6
          have HRQ := Lib.hid hRq; clear hRq
          have HW6 := Lib.hid hw6; clear hw6
          gi_wp2_with fail
          rw [← HW6.out, hyq]
          clear g0 g1 g2 g3 g4 g5 HW6 hyq
          gi_wp2_with fail
          refine ⟨fun _ => by omega, HRQ.out.mono ?_⟩
          rintro e W3 (⟨rfl, hJ3, hk3⟩ | ⟨rfl, hJx3, hk3⟩)
          · have hb3 := HBOX6.out.kept hk3
            have hs3 := HSRC6.out.kept hk3
            have hi3 := hk3.2.2.2 HI6.out
            have g1 : W3.cell? ⟨w5.heap.size, 1, none⟩ = some (.int .i64 b.last) := hb3.now.cell 1 rfl
            have HK3 := Lib.hid (And.intro hJ3 (And.intro hi3 hs3)); clear hJ3 hi3 hs3 hb3 hk3
            gi_wp2_with fail
            go_roundw
            case rel => exact ⟨pre ++ [((at', b), (A', c'))], at' + u, g', b.last, rfl, by go_num, by omega, by omega, by omega, HFUEL2.out, HWALK2.out, HK3.out.1, HK3.out.2.1, HK3.out.2.2⟩
            case measure => simp [intOf]; omega
          · clear hk3
            gi_wp2
            refine bodyPost_ret (results_none rfl _ _ _) rfl ?_
            exact ⟨⟨_, rfl⟩, .inr ⟨pre ++ [((at', b), (A', c'))], ⟨_, HWALK2.out⟩, hJx3⟩⟩
    · have hend : pre.map Prod.fst = dec.walk L := by
        have h := HWALK.out
        rw [dec.walk_end (by rw [HLEN.out]; omega), List.append_nil] at h
        exact h
      have HEND := Lib.hid hend; clear hend
      gi_wp2_with fail
      refine bodyPost_ret (results_none rfl _ _ _) rfl ?_
      exact ⟨⟨_, rfl⟩, .inl ⟨pre, HEND.out, HJ.out⟩⟩
end Go.Proofs.Ytndingohckcmdaa

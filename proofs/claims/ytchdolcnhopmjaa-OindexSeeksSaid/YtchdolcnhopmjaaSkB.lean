/- The walk of the law OindexSeeks: it answers true, whatever the input. -/
import Derived.BigRegionIn
import Derived.Scope
import Derived.Laws.ResultCell
import Derived.Test.YtchdolcnhopmjaaWkD
import Derived.Test.YtchdolcnhopmjaaObB
import Derived.Test.YtchdolcnhopmjaaWkG
namespace Go.Proofs.Ytchdolcnhopmjaa
open Go.RowKit Go.Shelf
attribute [local go_sem] Oper.semAt_some

/-- The search: what was found, and whether it was; `fr` is where the index leads to. -/
def sk.go (o fr : Int) : Int → Bool → List (Nat × Bat) → Int × Bool
  | p, ok, [] => (p, ok)
  | p, ok, x :: l =>
    if ok = false ∧ x.2.last < o then sk.go o fr p ok l
    else if (x.1 : Int) = fr then ((x.1 : Int), true)
    else if fr < (x.1 : Int) then (if ok then p else (x.1 : Int), true)
    else sk.go o fr (if ok then p else (x.1 : Int)) true l
theorem sk.go_eq {o fr p : Int} {ok : Bool} {x : Nat × Bat} {l : List (Nat × Bat)} (h : ¬ (ok = false ∧ x.2.last < o)) (h2 : (x.1 : Int) = fr) : sk.go o fr p ok (x :: l) = ((x.1 : Int), true) := by
  rw [sk.go, if_neg h, if_pos h2]
theorem sk.go_gt {o fr p : Int} {ok : Bool} {x : Nat × Bat} {l : List (Nat × Bat)} (h : ¬ (ok = false ∧ x.2.last < o)) (h2 : fr < (x.1 : Int)) : sk.go o fr p ok (x :: l) = (if ok then p else (x.1 : Int), true) := by
  rw [sk.go, if_neg h, if_neg (by omega), if_pos h2]
theorem sk.go_lt {o fr p : Int} {ok : Bool} {x : Nat × Bat} {l : List (Nat × Bat)} (h : ¬ (ok = false ∧ x.2.last < o)) (h2 : (x.1 : Int) < fr) : sk.go o fr p ok (x :: l) = sk.go o fr (if ok then p else (x.1 : Int)) true l := by
  rw [sk.go, if_neg h, if_neg (by omega), if_neg (by omega)]
/-- The first that reaches. -/
def sk.find (o : Int) : List (Nat × Bat) → Int × Bool
  | [] => (0, false)
  | x :: l => if x.2.last < o then sk.find o l else ((x.1 : Int), true)
theorem sk.go_find (o fr : Int) : ∀ (l : List (Nat × Bat)), (∀ x ∈ l, o ≤ x.2.last → fr ≤ (x.1 : Int)) → sk.go o fr 0 false l = sk.find o l
  | [], _ => rfl
  | x :: l, h => by
    unfold sk.go sk.find
    by_cases h1 : x.2.last < o
    · rw [if_pos ⟨rfl, h1⟩, if_pos h1]
      exact sk.go_find o fr l fun y hy => h y (List.mem_cons_of_mem _ hy)
    · rw [if_neg (fun hh => h1 hh.2), if_neg h1]
      have h2 := h x (List.mem_cons_self ..) (by omega)
      by_cases h3 : (x.1 : Int) = fr
      · rw [if_pos h3]
      · rw [if_neg h3, if_pos (by omega)]
        rfl

/-- A round leaves the boxes so. -/
theorem sk.step {z : Nat} {w W V : World} {o fr p p' : Int} {ok ok' : Bool} (B : Nat) (hz : z ≤ w.heap.size) (b1 : Boxed W (z + 1) 3 (.int .i64 p)) (b2 : Boxed W (z + 2) 4 (.bool ok)) (be : Boxed W z 3 (.int .i64 o)) (bf : Boxed W (z + 3) 3 (.int .i64 fr)) (hB : Below z w W)
    (c : Chg W V (fun k => k = z + 1 ∨ k = z + 2)) (b1' : Boxed V (z + 1) 3 (.int .i64 p')) (b2' : Boxed V (z + 2) 4 (.bool ok')) :
    KeepsFrom B W V ∧ Kept [z + 1, z + 2] W V ∧ Boxed V (z + 1) 3 (.int .i64 p') ∧ Boxed V (z + 2) 4 (.bool ok') ∧ Boxed V z 3 (.int .i64 o) ∧ Boxed V (z + 3) 3 (.int .i64 fr) ∧ Below z w V := by
  have hbs : ∀ b ∈ [z + 1, z + 2], b = z + 1 ∨ b = z + 2 := fun b hb => by simpa using hb
  have hzW : z ≤ W.heap.size := Nat.le_trans hz hB.size
  refine ⟨keeps_chg c fun k hk => ?_, Kept.boxes c (fun k hk => .inl ?_) fun b hb => ?_, b1', b2', (c.block z be.lt (by omega)).trans be, (c.block (z + 3) bf.lt (by omega)).trans bf, hB.trans (c.below hzW fun k hk => by omega)⟩
  · rcases hk with rfl | rfl
    · exact .of_boxed b1
    · exact .of_boxed b2
  · rcases hk with rfl | rfl <;> simp
  · rcases hbs b hb with rfl | rfl
    · exact ⟨.of_boxed b1', fun k e => by rw [boxOf_boxed b1'] at e; cases e⟩
    · exact ⟨.of_boxed b2', fun k e => by rw [boxOf_boxed b2'] at e; cases e⟩
/-- What the body keeps. -/
def sk.I (z : Nat) (w : World) (o fr : Int) (pre : List WkX) (W : World) : Prop :=
  (∃ p ok, Boxed W (z + 1) 3 (.int .i64 p) ∧ Boxed W (z + 2) 4 (.bool ok) ∧ ∀ rest, sk.go o fr 0 false (pre.map Prod.fst ++ rest) = sk.go o fr p ok rest) ∧ Boxed W z 3 (.int .i64 o) ∧ Boxed W (z + 3) 3 (.int .i64 fr) ∧ Below z w W
/-- How it ends early. -/
def sk.X (z : Nat) (w : World) (o fr : Int) (pre : List WkX) (W : World) : Prop :=
  (∃ p ok, Boxed W (z + 1) 3 (.int .i64 p) ∧ Boxed W (z + 2) 4 (.bool ok) ∧ ∀ rest, sk.go o fr 0 false (pre.map Prod.fst ++ rest) = (p, ok)) ∧ Boxed W z 3 (.int .i64 o) ∧ Boxed W (z + 3) 3 (.int .i64 fr) ∧ Below z w W
theorem sk.own {W W' : World} {row : Option Nat} (B z : Nat) (w : World) (hz : z ≤ w.heap.size) (hzB : z ≤ B) (hg : W.grownBy W' row) (hr : ∀ r, row = some r → B ≤ r ∧ ∃ o : Obj, W.heap[r]? = some o ∧ o.isCells = false) :
    (∀ {b : Nat} {t : TypeId} {v : Value}, Boxed W b t v → Boxed W' b t v) ∧ (Below z w W → Below z w W') :=
  ⟨fun {b t v} h => h.kept hg (fun e => by
    obtain ⟨o, ho, hc⟩ := (hr b e.symm).2
    rw [show W.heap[b]? = _ from h] at ho
    cases ho
    cases hc), fun h => h.grown hg (Nat.le_trans hz h.size) fun k e => Nat.le_trans hzB (hr k e).1⟩
theorem sk.I_own (z : Nat) (w : World) (o fr : Int) (B : Nat) (hz : z ≤ w.heap.size) (hB : z ≤ B) : OwnFrom B (sk.I z w o fr) := fun pre W W' row h hg hr => by
  obtain ⟨⟨p, ok, h1, h2, h3⟩, h4, h5, h6⟩ := h
  obtain ⟨q1, q2⟩ := sk.own B z w hz hB hg hr
  exact ⟨⟨p, ok, q1 h1, q1 h2, h3⟩, q1 h4, q1 h5, q2 h6⟩
theorem sk.X_own (z : Nat) (w : World) (o fr : Int) (B : Nat) (hz : z ≤ w.heap.size) (hB : z ≤ B) : OwnFrom B (sk.X z w o fr) := fun pre W W' row h hg hr => by
  obtain ⟨⟨p, ok, h1, h2, h3⟩, h4, h5, h6⟩ := h
  obtain ⟨q1, q2⟩ := sk.own B z w hz hB hg hr
  exact ⟨⟨p, ok, q1 h1, q1 h2, h3⟩, q1 h4, q1 h5, q2 h6⟩

set_option maxRecDepth 100000 in
set_option maxHeartbeats 4000000 in
theorem sk.seek_any (A : Option Addr) (m c : Nat) (L : List Nat) (AE : Option Addr) (en ec : Nat) (f : Nat → Nat → Int) (o : Int) (w : World) (hL : ∀ x ∈ L, x < 256) (hlen : L.length = m) (hmc : m ≤ c) (hc : c ≤ maxLen) (hm : m ≤ 1000000) (hen : en ≤ 1099511627776) (hat : At w A m (byteAt L)) (hE : At2 w AE en f) :
    Calls Try.prog 16 #[.slice A m c, .slice AE en ec, .int .i64 o] w fun e w' => e = .returned (.tuple #[.int .i64 (sk.go o (oi.look f o en) 0 false (dec.walk L)).1, .bool (sk.go o (oi.look f o en) 0 false (dec.walk L)).2]) ∧ Below w.heap.size w w' := by
  refine (callsIn_wide (n := 5)).1 ?_
  have h1 : 1 ≤ 5 := by omega
  refine callsIn_of_wp_marks Try.func16 rfl trivial ?_ rfl
  simp only [Try.ntmps16, List.size_toArray, List.length_cons, List.length_nil, Nat.reduceAdd, Nat.reduceSub, Array.replicate_succ, Array.replicate_zero, List.push_toArray, List.append_toArray, List.nil_append, List.cons_append]
  have HAT := Lib.hid hat; clear hat
  have HL := Lib.hid hL; clear hL
  have HLEN := Lib.hid hlen; clear hlen
  gi_wp2_with fail
  obtain ⟨w0, hw0⟩ : ∃ w0, w0 = ((w.alloc (.cells #[.int .i64 o] 3)).alloc (.cells #[.int .i64 0] 3)).alloc (.cells #[.bool false] 4) := ⟨_, rfl⟩
  rw [← hw0]
  have hB0 : Below w.heap.size w w0 := by rw [hw0]; exact (((Below.refl _ w).alloc (Nat.le_refl _) _).alloc (by simp) _).alloc (by simp; omega) _
  have bE : Boxed w0 w.heap.size 3 (.int .i64 o) := by rw [hw0]; exact ((Boxed.new w _ _).alloc _).alloc _
  have bP : Boxed w0 (w.heap.size + 1) 3 (.int .i64 0) := by
    rw [hw0]
    have h := Boxed.new (w.alloc (.cells #[.int .i64 o] 3)) 3 (.int .i64 0)
    rw [World.size_alloc] at h
    exact h.alloc _
  have bO : Boxed w0 (w.heap.size + 2) 4 (.bool false) := by
    rw [hw0]
    have h := Boxed.new ((w.alloc (.cells #[.int .i64 o] 3)).alloc (.cells #[.int .i64 0] 3)) 4 (.bool false)
    rw [World.size_alloc, World.size_alloc] at h
    exact h
  have hz0 : w0.heap.size = w.heap.size + 3 := by rw [hw0]; simp
  clear hw0
  have cO := bE.cell
  refine wpIn_scope' ?_
  gi_wp2_with fail
  refine ⟨trivial, ?_⟩
  refine (callsIn_wide.2 (oi.lookup_any AE en ec f o w0 hen (hE.below hB0 (Nat.le_refl _)))).mono ?_
  rintro e w' ⟨rfl, rfl⟩
  obtain ⟨fr, hfr⟩ : ∃ fr, fr = oi.look f o en := ⟨_, rfl⟩
  rw [← hfr]
  have HFR := Lib.hid hfr; clear hfr hE
  gi_wp2_with fail
  (try rw [hz0])
  obtain ⟨w1, hw1⟩ : ∃ w1, w1 = w'.alloc (.cells #[.int .i64 fr] 3) := ⟨_, rfl⟩
  rw [← hw1]
  have bF : Boxed w1 (w.heap.size + 3) 3 (.int .i64 fr) := by
    rw [hw1]
    have h := Boxed.new w' 3 (.int .i64 fr)
    rwa [hz0] at h
  have hb01 : Below w'.heap.size w' w1 := by rw [hw1]; exact (Below.refl _ _).alloc (Nat.le_refl _) _
  have hz1 : w1.heap.size = w.heap.size + 4 := by rw [hw1, World.size_alloc, hz0]
  clear hw1
  have hB1 : Below w.heap.size w w1 := hB0.trans (hb01.mono hB0.size)
  have hbx0 : ∀ {b : Nat} {t : TypeId} {v : Value}, Boxed w' b t v → Boxed w1 b t v := fun h => h.kept (grown_by hb01) (by simp)
  have bE := hbx0 bE
  have bP := hbx0 bP
  have bO := hbx0 bO
  refine wpIn_label ?_
  gi_wp2_with fail
  refine ⟨trivial, ?_⟩
  refine (callsIn_wide.2 (bat.walk_any A m c w1)).mono ?_
  rintro e w2 ⟨rfl, hw2⟩
  rw [hz1]
  have hb2 : Below w1.heap.size w1 w2 := by rw [hw2]; exact (Below.refl _ _).alloc (Nat.le_refl _) _
  have hkp : Blk w2 (w.heap.size + 4) 22 #[.slice A m c] := by
    rw [hw2]
    have h := Blk.new w1 22 #[.slice A m c]
    rwa [hz1] at h
  have hz2 : w2.heap.size = w.heap.size + 5 := by rw [hw2, World.size_alloc, hz1]
  clear hw2
  have hbx : ∀ {b : Nat} {t : TypeId} {v : Value}, Boxed w1 b t v → Boxed w2 b t v := fun h => h.kept (grown_by hb2) (by simp)
  have bE2 := hbx bE
  have bP2 := hbx bP
  have bO2 := hbx bO
  have bF2 := hbx bF
  have hB2 : Below w.heap.size w w2 := hB1.trans (hb2.mono hB1.size)
  have hbs : ∀ b ∈ [w.heap.size + 1, w.heap.size + 2], b = w.heap.size + 1 ∨ b = w.heap.size + 2 := fun b hb => by simpa using hb
  have hnb : ∀ b ∈ [w.heap.size + 1, w.heap.size + 2], boxOf w2 b = none := fun b hb => by
    rcases hbs b hb with rfl | rfl
    · rw [boxOf_boxed bP2]; rfl
    · rw [boxOf_boxed bO2]; rfl
  have hin : InB [w.heap.size + 1, w.heap.size + 2] w2 := fun b hb => ⟨by
    rcases hbs b hb with rfl | rfl
    · exact .of_boxed bP2
    · exact .of_boxed bO2, fun k e => by rw [hnb b hb] at e; cases e⟩
  have hsafe : ∀ k, k ≠ w.heap.size + 1 → k ≠ w.heap.size + 2 → Safe [w.heap.size + 1, w.heap.size + 2] w2 k := fun k hk1 hk2 => ⟨fun h => by
    rcases hbs k h with rfl | rfl
    · exact hk1 rfl
    · exact hk2 rfl, fun b hb e => by rw [hnb b hb] at e; cases e⟩
  have hsrc : Dep (Safe [w.heap.size + 1, w.heap.size + 2] w2) w2 (wk.Src (w.heap.size + 4) A m c L) := (Dep.blk hkp (hsafe _ (by omega) (by omega))).both (Dep.at' (HAT.out.below hB2 (Nat.le_refl _)) fun hp b off e => by
    obtain ⟨b', off', e', hb', -⟩ := HAT.out hp
    rw [e] at e'
    cases e'
    exact hsafe _ (by omega) (by omega))
  clear bE bP bO bF hbx hbx0 hkp hnb hsafe hb01 hB0 hB1 hb2
  gi_wp2_with fail
  refine for_eachB (F := Fence.wide) (n := 5) rfl h1 (gf := 49) (lb := #[.pointer (some ⟨w.heap.size + 4, 0, none⟩)]) rfl trivial (enters_of Try.func49 (by kernel_rfl) rfl)
    (bat.hands 4 (by omega) (w.heap.size + 4) [w.heap.size + 1, w.heap.size + 2] A m c L w2 HL.out HLEN.out hmc hc hm hin hsrc) (Below.refl _ _) Kept.trans
    (fun W o h => Kept.alloc o fun b hb => by rcases hbs b hb with rfl | rfl <;> omega) (fun W l o o' hl ho hcc _ => Kept.put ho hcc fun b hb => by rcases hbs b hb with rfl | rfl <;> omega) (fun _ => rfl)
    (fun pre W => sk.I w.heap.size w o fr pre W) (fun cd pre W => cd = .exit 0 ∧ sk.X w.heap.size w o fr pre W)
    (sk.I_own _ _ _ _ _ (Nat.le_refl _) (by omega)) (fun cd s X Y row hs hg hr => ⟨hs.1, sk.X_own _ _ _ _ w2.heap.size (Nat.le_refl _) (by omega) s X Y row hs.2 hg hr⟩) (wk.R_own _ _ _) (fun _ _ _ _ h _ _ => h) (fun _ _ _ _ h _ _ => h)
    ⟨⟨_, _, bP2, bO2, fun _ => rfl⟩, bE2, bF2, hB2⟩ 50 wk.cells
    (fun x g => { tmps := #[.slice A m c, .slice AE en ec, .int .i64 o, undef, undef, .pointer (some ⟨w.heap.size, 0, none⟩), .pointer (some ⟨w.heap.size + 1, 0, none⟩), .pointer (some ⟨w.heap.size + 1 + 1, 0, none⟩), .pointer (some ⟨w.heap.size + 3, 0, none⟩), .int .i64 (x.1.1 : Int), .pointer (some ⟨g, 0, none⟩), .slice AE en ec, .int .i64 o, .int .i64 fr, .slice A m c, .func (.func 49) #[] #[.pointer (some ⟨w.heap.size + 4, 0, none⟩)], .int .i64 (x.1.1 : Int), .agg (wk.cells x), undef, undef, undef, undef, undef, undef, undef, undef, undef, undef, undef, undef, undef, undef, undef, undef, undef, undef, undef, undef, undef, undef, undef, undef, undef, undef], defers := [] }) ?assign ?body ?done ?stop
  case assign =>
    rintro l ⟨⟨at', b⟩, ⟨A2, c2⟩⟩ W K hK
    unfold wk.encs Bat.hval
    unfold wk.cells at hK
    dsimp only at hK ⊢
    gi_wp2
    exact hK
  case body =>
    rintro l pre ⟨⟨at', b⟩, ⟨A2, c2⟩⟩ g W hg1 hg2 hk hI hR hlt
    unfold wk.cells at hk ⊢
    dsimp only at hk ⊢
    obtain ⟨⟨p, ok, b1, b2, hgo⟩, be, bf, hB⟩ := id hI
    have c1 := b1.cell
    have c2' : W.cell? ⟨w.heap.size + 1 + 1, 0, none⟩ = some (.bool ok) := b2.cell
    have c0 := be.cell
    have c3 := bf.cell
    have g1 : W.cell? ⟨g, 0 + 1, none⟩ = some (.int .i64 b.last) := hk.cell 1 rfl
    have f1 := b1.frozen
    have f2 : W.frozen? ⟨w.heap.size + 1 + 1, 0, none⟩ = false := b2.frozen
    have hs0 := fun V p' ok' hc h1 h2 => sk.step (V := V) (p' := p') (ok' := ok') w2.heap.size (Nat.le_refl _) b1 b2 be bf hB hc h1 h2
    have hs := hs0
    have HS := Lib.hid hs; clear hs hs0
    have hg2' : ∀ rest, sk.go o fr 0 false ((pre ++ [((at', b), (A2, c2))]).map Prod.fst ++ rest) = sk.go o fr p ok ((at', b) :: rest) := fun rest => by
      rw [List.map_append, List.append_assoc, hgo]
      rfl
    have HG := Lib.hid hg2'; clear hg2' hgo
    have HB1 := Lib.hid (And.intro b1 b2); clear b1 b2 be bf hB hI hR hk
    by_cases hlt : ok = false ∧ b.last < o
    · obtain ⟨rfl, hlo⟩ := hlt
      have hG : ∀ rest, sk.go o fr 0 false ((pre ++ [((at', b), (A2, c2))]).map Prod.fst ++ rest) = sk.go o fr p false rest := fun rest => by
        rw [HG.out]
        show (if false = false ∧ b.last < o then _ else _) = _
        rw [if_pos ⟨rfl, hlo⟩]
      have HG2 := Lib.hid hG; clear hG HG
      gi_wp2
      obtain ⟨q1, q2, q3, q4, q5, q6, q7⟩ := HS.out W p false (Chg.refl _ _) HB1.out.1 HB1.out.2
      exact ⟨q1, q2, ⟨p, false, q3, q4, HG2.out⟩, q5, q6, q7⟩
    · have hno : ¬ (ok = false ∧ b.last < o) := hlt
      have hlst : ok = false → o ≤ b.last := fun h => by
        rcases Int.lt_or_le b.last o with h2 | h2
        · exact absurd ⟨h, h2⟩ hno
        · exact h2
      have HNO := Lib.hid hno; clear hno hlt
      have hfst : ∀ v, Boxed (W.setCell ⟨w.heap.size + 1, 0, none⟩ v) (w.heap.size + 1) 3 v ∧ Boxed (W.setCell ⟨w.heap.size + 1, 0, none⟩ v) (w.heap.size + 2) 4 (.bool ok) := fun v => ⟨HB1.out.1.set v, HB1.out.2.other (by omega) v⟩
      have hsnd : ∀ v, Boxed ((W.setCell ⟨w.heap.size + 1, 0, none⟩ v).setCell ⟨w.heap.size + 2, 0, none⟩ (.bool true)) (w.heap.size + 1) 3 v ∧ Boxed ((W.setCell ⟨w.heap.size + 1, 0, none⟩ v).setCell ⟨w.heap.size + 2, 0, none⟩ (.bool true)) (w.heap.size + 2) 4 (.bool true) := fun v => ⟨(hfst v).1.other (by omega) _, (hfst v).2.set _⟩
      have hch : ∀ v, Chg W (W.setCell ⟨w.heap.size + 1, 0, none⟩ v) (fun k => k = w.heap.size + 1 ∨ k = w.heap.size + 2) := fun v => (Chg.refl W _).trans (Chg.setCell W (w.heap.size + 1) 0 v) fun k _ h => .inl h
      have hch2 : ∀ v, Chg W ((W.setCell ⟨w.heap.size + 1, 0, none⟩ v).setCell ⟨w.heap.size + 2, 0, none⟩ (.bool true)) (fun k => k = w.heap.size + 1 ∨ k = w.heap.size + 2) := fun v => (hch v).trans (Chg.setCell _ (w.heap.size + 2) 0 (.bool true)) fun k _ h => .inr h
      have HF := Lib.hid (And.intro hfst (And.intro hsnd (And.intro hch hch2))); clear hfst hsnd hch hch2
      by_cases heq : (at' : Int) = fr
      · subst heq
        have hG : ∀ rest, sk.go o (at' : Int) 0 false ((pre ++ [((at', b), (A2, c2))]).map Prod.fst ++ rest) = ((at' : Int), true) := fun rest => by
          rw [HG.out]
          exact sk.go_eq HNO.out rfl
        have HG2 := Lib.hid hG; clear hG HG
        cases ok with
        | false =>
          have hle := hlst rfl
          clear hlst
          gi_wp2
          have hV := (HF.out.2.1 (.int .i64 (at' : Int))).1.set (.int .i64 (at' : Int))
          have hV2 := (HF.out.2.1 (.int .i64 (at' : Int))).2.other (show w.heap.size + 2 ≠ w.heap.size + 1 by omega) (.int .i64 (at' : Int))
          obtain ⟨q1, q2, q3, q4, q5, q6, q7⟩ := HS.out _ (at' : Int) true ((HF.out.2.2.2 (.int .i64 (at' : Int))).trans (Chg.setCell _ (w.heap.size + 1) 0 (.int .i64 (at' : Int))) fun k _ h => .inl h) hV hV2
          exact ⟨by first | exact q1 | (rw [← hz2]; exact q1), q2, rfl, ⟨_, true, q3, q4, HG2.out⟩, q5, q6, q7⟩
        | true =>
          clear hlst
          gi_wp2
          obtain ⟨q1, q2, q3, q4, q5, q6, q7⟩ := HS.out _ (at' : Int) true (HF.out.2.2.1 (.int .i64 (at' : Int))) (HF.out.1 _).1 (HF.out.1 _).2
          exact ⟨by first | exact q1 | (rw [← hz2]; exact q1), q2, rfl, ⟨_, true, q3, q4, HG2.out⟩, q5, q6, q7⟩
      · have hef : ((at' : Int) == fr) = false := by simpa using heq
        by_cases hgt : fr < (at' : Int)
        · have hG : ∀ rest, sk.go o fr 0 false ((pre ++ [((at', b), (A2, c2))]).map Prod.fst ++ rest) = (if ok then p else (at' : Int), true) := fun rest => by
            rw [HG.out]
            exact sk.go_gt HNO.out hgt
          have HG2 := Lib.hid hG; clear hG HG
          cases ok with
          | false =>
            have hle := hlst rfl
            clear hlst
            gi_wp2
            obtain ⟨q1, q2, q3, q4, q5, q6, q7⟩ := HS.out _ (at' : Int) true (HF.out.2.2.2 (.int .i64 (at' : Int))) (HF.out.2.1 _).1 (HF.out.2.1 _).2
            exact ⟨by first | exact q1 | (rw [← hz2]; exact q1), q2, rfl, ⟨_, true, q3, q4, HG2.out⟩, q5, q6, q7⟩
          | true =>
            clear hlst
            gi_wp2
            obtain ⟨q1, q2, q3, q4, q5, q6, q7⟩ := HS.out W p true (Chg.refl _ _) HB1.out.1 HB1.out.2
            exact ⟨by first | exact q1 | (rw [← hz2]; exact q1), q2, rfl, ⟨_, true, q3, q4, HG2.out⟩, q5, q6, q7⟩
        · have hlt2 : (at' : Int) < fr := by omega
          have hG : ∀ rest, sk.go o fr 0 false ((pre ++ [((at', b), (A2, c2))]).map Prod.fst ++ rest) = sk.go o fr (if ok then p else (at' : Int)) true rest := fun rest => by
            rw [HG.out]
            exact sk.go_lt HNO.out hlt2
          have HG2 := Lib.hid hG; clear hG HG
          cases ok with
          | false =>
            have hle := hlst rfl
            clear hlst
            gi_wp2
            obtain ⟨q1, q2, q3, q4, q5, q6, q7⟩ := HS.out _ (at' : Int) true (HF.out.2.2.2 (.int .i64 (at' : Int))) (HF.out.2.1 _).1 (HF.out.2.1 _).2
            exact ⟨by first | exact q1 | (rw [← hz2]; exact q1), q2, ⟨_, true, q3, q4, HG2.out⟩, q5, q6, q7⟩
          | true =>
            clear hlst
            gi_wp2
            obtain ⟨q1, q2, q3, q4, q5, q6, q7⟩ := HS.out W p true (Chg.refl _ _) HB1.out.1 HB1.out.2
            exact ⟨by first | exact q1 | (rw [← hz2]; exact q1), q2, ⟨_, true, q3, q4, HG2.out⟩, q5, q6, q7⟩
  case done =>
    rintro D xs W hD hS ⟨⟨p, ok, b1, b2, hgo⟩, be, bf, hB⟩ hK
    have hS : xs.map Prod.fst = dec.walk L := hS
    have hgo0 := hgo []
    rw [List.append_nil, hS] at hgo0
    have HGO := Lib.hid (show sk.go o fr 0 false (dec.walk L) = (p, ok) from hgo0)
    have c1 := b1.cell
    have c2 : W.cell? ⟨w.heap.size + 1 + 1, 0, none⟩ = some (.bool ok) := b2.cell
    have f1 := b1.frozen
    have f2 : W.frozen? ⟨w.heap.size + 1 + 1, 0, none⟩ = false := b2.frozen
    have HH := Lib.hid (And.intro b1 (And.intro b2 hB)); clear b1 b2 be bf hB hgo hgo0 hS
    gi_wp2_with fail
    gi_region
    gi_wp2_with fail
    obtain ⟨V, hVe⟩ : ∃ V, V = ((W.setCell ⟨w.heap.size + 1, 0, none⟩ (.int .i64 p)).setCell ⟨w.heap.size + 1 + 1, 0, none⟩ (.bool ok)).drew := ⟨_, rfl⟩
    rw [← hVe]
    have hV1 : Boxed V (w.heap.size + 1) 3 (.int .i64 p) := by rw [hVe]; exact (HH.out.1.set _).other (show w.heap.size + 1 ≠ w.heap.size + 2 by omega) (.bool ok)
    have hV2 : Boxed V (w.heap.size + 2) 4 (.bool ok) := by rw [hVe]; exact (HH.out.2.1.other (show w.heap.size + 2 ≠ w.heap.size + 1 by omega) (.int .i64 p)).set _
    have hcg : Chg W V (fun k => k = w.heap.size + 1 ∨ k = w.heap.size + 2) := by rw [hVe]; exact ((((Chg.refl W _).trans (Chg.setCell W (w.heap.size + 1) 0 (.int .i64 p)) fun k _ h => .inl h)).trans (Chg.setCell _ (w.heap.size + 2) 0 (.bool ok)) fun k _ h => .inr h).drew
    clear hVe
    have hKV : V.heap[D]? = some (.deferred (some [])) := (hcg.block D (heap_in hK) (by omega)).trans hK
    have hput : ∀ o', Boxed (V.putObj D o') (w.heap.size + 1) 3 (.int .i64 p) ∧ Boxed (V.putObj D o') (w.heap.size + 2) 4 (.bool ok) := fun o' => ⟨(Dep.blk (Z := fun _ => True) hV1 trivial).put hKV rfl, (Dep.blk (Z := fun _ => True) hV2 trivial).put hKV rfl⟩
    have hBV : Below w.heap.size w V := HH.out.2.2.trans (hcg.below HH.out.2.2.size fun k hk => by omega)
    (try rw [Exit.noGoto_ret])
    refine ⟨by simp, .inl ⟨_, _, rfl, run_takeDeferred hKV, ?_⟩⟩
    refine ⟨_, results_cells2 rfl _ _ ⟨w.heap.size + 1, 0, none⟩ ⟨w.heap.size + 2, 0, none⟩ rfl rfl (loadVar_int (hput _).1.cell) (loadVar_bool (hput _).2.cell), ?_⟩
    exact ⟨by rw [← HFR.out, HGO.out], hBV.trans (belowK_b (w := w) (Nat.le_refl _) V D _ _ (by omega) hKV rfl rfl)⟩
  case stop =>
    rintro D cd pre W hD hpre ⟨rfl, ⟨p, ok, b1, b2, hgo⟩, be, bf, hB⟩ hK
    obtain ⟨rest, hr⟩ := hpre
    have hgo0 := hgo rest
    have HGO := Lib.hid (show sk.go o fr 0 false (dec.walk L) = (p, ok) by rw [← hr]; exact hgo0)
    have c1 := b1.cell
    have c2 : W.cell? ⟨w.heap.size + 1 + 1, 0, none⟩ = some (.bool ok) := b2.cell
    have f1 := b1.frozen
    have f2 : W.frozen? ⟨w.heap.size + 1 + 1, 0, none⟩ = false := b2.frozen
    have HH := Lib.hid (And.intro b1 (And.intro b2 hB)); clear b1 b2 be bf hB hgo hgo0 hr
    gi_wp2_with fail
    gi_region
    gi_wp2_with fail
    obtain ⟨V, hVe⟩ : ∃ V, V = ((W.setCell ⟨w.heap.size + 1, 0, none⟩ (.int .i64 p)).setCell ⟨w.heap.size + 1 + 1, 0, none⟩ (.bool ok)).drew := ⟨_, rfl⟩
    rw [← hVe]
    have hV1 : Boxed V (w.heap.size + 1) 3 (.int .i64 p) := by rw [hVe]; exact (HH.out.1.set _).other (show w.heap.size + 1 ≠ w.heap.size + 2 by omega) (.bool ok)
    have hV2 : Boxed V (w.heap.size + 2) 4 (.bool ok) := by rw [hVe]; exact (HH.out.2.1.other (show w.heap.size + 2 ≠ w.heap.size + 1 by omega) (.int .i64 p)).set _
    have hcg : Chg W V (fun k => k = w.heap.size + 1 ∨ k = w.heap.size + 2) := by rw [hVe]; exact ((((Chg.refl W _).trans (Chg.setCell W (w.heap.size + 1) 0 (.int .i64 p)) fun k _ h => .inl h)).trans (Chg.setCell _ (w.heap.size + 2) 0 (.bool ok)) fun k _ h => .inr h).drew
    clear hVe
    have hKV : V.heap[D]? = some (.deferred (some [])) := (hcg.block D (heap_in hK) (by omega)).trans hK
    have hput : ∀ o', Boxed (V.putObj D o') (w.heap.size + 1) 3 (.int .i64 p) ∧ Boxed (V.putObj D o') (w.heap.size + 2) 4 (.bool ok) := fun o' => ⟨(Dep.blk (Z := fun _ => True) hV1 trivial).put hKV rfl, (Dep.blk (Z := fun _ => True) hV2 trivial).put hKV rfl⟩
    have hBV : Below w.heap.size w V := HH.out.2.2.trans (hcg.below HH.out.2.2.size fun k hk => by omega)
    (try rw [Exit.noGoto_ret])
    refine ⟨by simp, .inl ⟨_, _, rfl, run_takeDeferred hKV, ?_⟩⟩
    refine ⟨_, results_cells2 rfl _ _ ⟨w.heap.size + 1, 0, none⟩ ⟨w.heap.size + 2, 0, none⟩ rfl rfl (loadVar_int (hput _).1.cell) (loadVar_bool (hput _).2.cell), ?_⟩
    exact ⟨by rw [← HFR.out, HGO.out], hBV.trans (belowK_b (w := w) (Nat.le_refl _) V D _ _ (by omega) hKV rfl rfl)⟩

attribute [local go_sem] Oper.semAt_some

/-- One batch stands ahead of another. -/
def sk.R (x y : Nat × Bat) : Prop := x.1 < y.1 ∧ x.2.last < y.2.base
theorem sk.walkF_rise {L : List Nat} (hL : ∀ x ∈ L, x < 256) : ∀ (g at' : Nat) (ahead : Int), (∀ x ∈ dec.walkF g L at' ahead, at' ≤ x.1 ∧ ahead < x.2.base) ∧ (dec.walkF g L at' ahead).Pairwise sk.R
  | 0, _, _ => ⟨fun x hx => (by cases hx), .nil⟩
  | g + 1, at', ahead => by
    rw [dec.walkF_succ]
    cases h : dec.first (L.drop at') with
    | none => exact ⟨fun x hx => (by cases hx), .nil⟩
    | some y =>
      obtain ⟨b, u⟩ := y
      unfold dec.walkG
      dsimp only
      split
      · exact ⟨fun x hx => (by cases hx), .nil⟩
      · rename_i hb
        have hi := dec.is_of hL h
        have hm := (Bat.check_ok hi.check).1.2.2.1
        have hlow := hi.low
        obtain ⟨i1, i2⟩ := sk.walkF_rise hL g (at' + u) b.last
        refine ⟨fun x hx => ?_, List.pairwise_cons.2 ⟨fun x hx => ?_, i2⟩⟩
        · rcases List.mem_cons.1 hx with rfl | hx
          · exact ⟨Nat.le_refl _, by show ahead < b.base; omega⟩
          · have := i1 x hx
            exact ⟨by omega, by omega⟩
        · have := i1 x hx
          exact ⟨by show at' < x.1; omega, this.2⟩
theorem sk.look_in (f : Nat → Nat → Int) (o : Int) (E : List (Nat × Bat)) (hf : ∀ (i : Nat) (x : Nat × Bat), E[i]? = some x → f i 0 = x.2.base ∧ f i 1 = (x.1 : Int)) : ∀ k, k ≤ E.length → oi.look f o k = 0 ∨ ∃ y ∈ E, y.2.base ≤ o ∧ oi.look f o k = (y.1 : Int)
  | 0, _ => .inl rfl
  | k + 1, hk => by
    obtain ⟨y, hy⟩ : ∃ y, E[k]? = some y := ⟨_, List.getElem?_eq_getElem (by omega)⟩
    obtain ⟨h1, h2⟩ := hf k y hy
    unfold oi.look
    split
    · rename_i h
      exact .inr ⟨y, List.mem_of_getElem? hy, by omega, h2⟩
    · exact sk.look_in f o E hf k (by omega)
/-- An index of batches of the walk leads no further than to the first that reaches. -/
theorem sk.low {L : List Nat} (hL : ∀ x ∈ L, x < 256) (f : Nat → Nat → Int) (o : Int) (E : List (Nat × Bat)) (hE : E.Sublist (dec.walk L)) (hf : ∀ (i : Nat) (x : Nat × Bat), E[i]? = some x → f i 0 = x.2.base ∧ f i 1 = (x.1 : Int)) :
    ∀ x ∈ dec.walk L, o ≤ x.2.last → oi.look f o E.length ≤ (x.1 : Int) := by
  intro x hx ho
  rcases sk.look_in f o E hf E.length (Nat.le_refl _) with h | ⟨y, hy, h1, h2⟩
  · omega
  · rw [h2]
    have hp := (sk.walkF_rise hL L.length 0 (-1)).2
    have hyl := hE.subset hy
    obtain ⟨i, hi, hix⟩ := List.mem_iff_getElem.1 hx
    obtain ⟨j, hj, hjy⟩ := List.mem_iff_getElem.1 hyl
    have hpi := List.pairwise_iff_getElem.1 hp
    rcases Nat.lt_trichotomy i j with hij | hij | hij
    · have := hpi i j hi hj hij
      unfold dec.walk at hix hjy
      rw [hix, hjy] at this
      have := this.2
      omega
    · subst hij
      rw [hix] at hjy
      subst hjy
      exact Int.le_refl _
    · have := hpi j i hj hi hij
      unfold dec.walk at hix hjy
      rw [hix, hjy] at this
      have := this.1
      omega
/-- An index that was built, as entries. -/
def ob.num (E : List (Nat × Bat)) (i j : Nat) : Int :=
  match E[i]? with
  | none => 0
  | some x => if j = 0 then x.2.base else (x.1 : Int)
theorem ob.num_at {E : List (Nat × Bat)} {i : Nat} {x : Nat × Bat} (h : E[i]? = some x) : ob.num E i 0 = x.2.base ∧ ob.num E i 1 = (x.1 : Int) := by
  unfold ob.num
  rw [h]
  exact ⟨rfl, rfl⟩
theorem ob.at2 {w : World} {A : Option Addr} {E : List (Nat × Bat)} (h : At w A (E.length * 2) (fun j => (ob.row E).getD j undef)) : At2 w A E.length (ob.num E) := by
  refine ⟨_, h, fun i j hi hj => ?_⟩
  obtain ⟨x, hx⟩ : ∃ x, E[i]? = some x := ⟨_, List.getElem?_eq_getElem hi⟩
  have hg := flat_get ob.cell2 2 (fun _ => rfl) E i j x hx hj
  obtain ⟨h0, h1⟩ := ob.num_at hx
  show ((E.map ob.cell2).flatten).getD (i * 2 + j) undef = _
  rw [hg]
  match j, hj with
  | 0, _ => rw [h0]; rfl
  | 1, _ => rw [h1]; rfl
/-- With an index that was built the search finds what a walk finds. -/
theorem sk.built {L : List Nat} (hL : ∀ x ∈ L, x < 256) (mm o : Int) : sk.go o (oi.look (ob.num (ob.ent mm 0 (dec.walk L))) o (ob.ent mm 0 (dec.walk L)).length) 0 false (dec.walk L) = sk.find o (dec.walk L) :=
  sk.go_find o _ _ (sk.low hL _ o _ (ob.sub mm _ 0) fun _ _ h => ob.num_at h)
theorem sk.empty (L : List Nat) (o : Int) (f : Nat → Nat → Int) : sk.go o (oi.look f o 0) 0 false (dec.walk L) = sk.find o (dec.walk L) :=
  sk.go_find o _ _ fun x _ _ => by
    show (0 : Int) ≤ (x.1 : Int)
    omega
theorem sk.seek_built (A : Option Addr) (m c : Nat) (L : List Nat) (AE : Option Addr) (ec : Nat) (mm o : Int) (w : World) (hL : ∀ x ∈ L, x < 256) (hlen : L.length = m) (hmc : m ≤ c) (hc : c ≤ maxLen) (hm : m ≤ 1000000) (hat : At w A m (byteAt L))
    (hE : At w AE ((ob.ent mm 0 (dec.walk L)).length * 2) (fun j => (ob.row (ob.ent mm 0 (dec.walk L))).getD j undef)) :
    Calls Try.prog 16 #[.slice A m c, .slice AE (ob.ent mm 0 (dec.walk L)).length ec, .int .i64 o] w fun e w' => e = .returned (.tuple #[.int .i64 (sk.find o (dec.walk L)).1, .bool (sk.find o (dec.walk L)).2]) ∧ Below w.heap.size w w' := by
  have hwl := dec.walk_len hL
  have h2 := (ob.sub mm (dec.walk L) 0).length_le
  have h := sk.seek_any A m c L AE _ ec _ o w hL hlen hmc hc hm (by omega) hat (ob.at2 hE)
  rw [sk.built hL] at h
  exact h
theorem sk.seek_none (A : Option Addr) (m c : Nat) (L : List Nat) (o : Int) (w : World) (hL : ∀ x ∈ L, x < 256) (hlen : L.length = m) (hmc : m ≤ c) (hc : c ≤ maxLen) (hm : m ≤ 1000000) (hat : At w A m (byteAt L)) :
    Calls Try.prog 16 #[.slice A m c, .slice none 0 0, .int .i64 o] w fun e w' => e = .returned (.tuple #[.int .i64 (sk.find o (dec.walk L)).1, .bool (sk.find o (dec.walk L)).2]) ∧ Below w.heap.size w w' := by
  have h := sk.seek_any A m c L none 0 0 (fun _ _ => 0) o w hL hlen hmc hc hm (by omega) hat ⟨fun _ => .int .i64 0, fun h => absurd h (by omega), fun i j hi => absurd hi (by omega)⟩
  rw [sk.empty] at h
  exact h
theorem sk.find_drop (o : Int) (l : List (Nat × Bat)) (k : Nat) (y : Nat × Bat) (hy : l[k]? = some y) : sk.find o (l.drop k) = if y.2.last < o then sk.find o (l.drop (k + 1)) else ((y.1 : Int), true) := by
  obtain ⟨hk, e⟩ := List.getElem?_eq_some_iff.1 hy
  rw [List.drop_eq_getElem_cons hk, e]
  rfl

set_option maxRecDepth 100000 in
set_option maxHeartbeats 4000000 in
theorem sk.lawSeeks (A : Option Addr) (n c : Nat) (z : List Int) (every other o : Int) (w : World) (hm : z.length = n ∧ n ≤ c ∧ c ≤ maxLen) (hat0 : At w A n (fun j => .int .u8 (z.getD j 0))) (hz : ∀ x ∈ z, (Lit.int .u8 x).wf = true) :
    Calls Try.prog 4 #[.slice A n c, .int .i64 every, .int .i64 other, .int .i64 o] w fun e w' => e = .returned (.bool true) ∧ Below w.heap.size w w' := by
  obtain ⟨hzn, hnc, hcm⟩ := hm
  obtain ⟨hat, hby0⟩ := ints_bytes hat0 hzn hz
  obtain ⟨L, hL⟩ : ∃ L, L = z.map Int.toNat := ⟨_, rfl⟩
  have hln : L.length = n := by rw [hL, List.length_map]; exact hzn
  rw [← hL] at hat hby0
  have hby := ob.bytes_each hln hby0
  clear hby0 hat0 hz hzn hL
  have HAW := Lib.hid (fun wx => oi.awake_any wx)
  by_cases hn5 : n ≤ 4000
  · have hall := fun wx (h : Below w.heap.size w wx) => ref.all_any A c n L wx hln (hat.below h (Nat.le_refl _)) hby hnc hcm (by omega)
    have hwl := dec.walk_len hby
    rw [hln] at hwl
    obtain ⟨⟨F1, F2⟩, hF⟩ : ∃ y, y = sk.find o (dec.walk L) := ⟨_, rfl⟩
    have hb : ∀ ev : Int, ∃ (N : Nat) (T : World → Option Addr → Prop), (∀ wx, Below w.heap.size w wx → Calls Try.prog 19 #[.slice A n c, .int .i64 ev] wx fun e w' => ∃ A1 c1, e = .returned (.slice A1 N c1) ∧ T w' A1 ∧ Below wx.heap.size wx w') ∧
        (∀ wx A1 c1, Below w.heap.size w wx → T wx A1 → Calls Try.prog 16 #[.slice A n c, .slice A1 N c1, .int .i64 o] wx fun e w' => e = .returned (.tuple #[.int .i64 F1, .bool F2]) ∧ Below wx.heap.size wx w') := fun ev => by
      refine ⟨(ob.ent (max ev 1) 0 (dec.walk L)).length, fun wx A1 => At wx A1 ((ob.ent (max ev 1) 0 (dec.walk L)).length * 2) (fun j => (ob.row (ob.ent (max ev 1) 0 (dec.walk L))).getD j undef), fun wx hwx => ?_, fun wx A1 c1 hwx hT => ?_⟩
      · refine (ob.build_any A n c L ev wx hby hln hnc hcm (by omega) (hat.below hwx (Nat.le_refl _))).mono ?_
        rintro e w' ⟨A1, c1, h1, -, h2, h3⟩
        exact ⟨A1, c1, h1, h2, h3⟩
      · have h := sk.seek_built A n c L A1 c1 (max ev 1) o wx hby hln hnc hcm (by omega) (hat.below hwx (Nat.le_refl _)) hT
        rw [← hF] at h
        exact h
    have hs3 := fun wx (hwx : Below w.heap.size w wx) => sk.seek_none A n c L o wx hby hln hnc hcm (by omega) (hat.below hwx (Nat.le_refl _))
    rw [← hF] at hs3
    obtain ⟨N1, T1, hb1, hs1⟩ := hb every
    obtain ⟨N2, T2, hb2, hs2⟩ := hb other
    clear hb
    unfold wa.Post at hall
    obtain ⟨l, hl⟩ : ∃ l, l = dec.walk L := ⟨_, rfl⟩
    rw [← hl] at hwl hall hF
    obtain ⟨N, hN⟩ : ∃ N, N = l.length := ⟨_, rfl⟩
    rw [← hN] at hall hwl
    have HB1 := Lib.hid hb1; clear hb1
    have HB2 := Lib.hid hb2; clear hb2
    have HS1 := Lib.hid hs1; clear hs1
    have HS2 := Lib.hid hs2; clear hs2
    have HS3 := Lib.hid hs3; clear hs3
    have HALL := Lib.hid hall; clear hall
    have HF := Lib.hid hF; clear hF
    have HN := Lib.hid hN; clear hN hl
    clear hat hby hln
    go_enter Try.func4, Try.ntmps4
    go_wp2_with fail
    refine (HB1.out w (Below.refl _ _)).mono ?_
    rintro e w1 ⟨A1, c1, rfl, hT1, hw1⟩
    have HW1 := Lib.hid hw1; clear hw1 HB1
    have HT1 := Lib.hid hT1; clear hT1
    go_wp2_with fail
    refine (HS1.out w1 A1 c1 HW1.out HT1.out).mono ?_
    rintro e w2 ⟨rfl, hw2⟩
    have HW2 := Lib.hid (HW1.out.trans (hw2.mono HW1.out.size)); clear hw2 HW1 HS1 HT1
    go_wp2_with fail
    refine (HB2.out w2 HW2.out).mono ?_
    rintro e w3 ⟨A2, c2, rfl, hT2, hw3⟩
    have HW3 := Lib.hid (HW2.out.trans (hw3.mono HW2.out.size)); clear hw3 HW2 HB2
    have HT2 := Lib.hid hT2; clear hT2
    go_wp2_with fail
    refine (HS2.out w3 A2 c2 HW3.out HT2.out).mono ?_
    rintro e w4 ⟨rfl, hw4⟩
    have HW4 := Lib.hid (HW3.out.trans (hw4.mono HW3.out.size)); clear hw4 HW3 HS2 HT2
    go_wp2_with fail
    refine (HS3.out w4 HW4.out).mono ?_
    rintro e w5 ⟨rfl, hw5⟩
    have HW5 := Lib.hid (HW4.out.trans (hw5.mono HW4.out.size)); clear hw5 HW4 HS3
    go_wp2_with fail
    refine (HALL.out w5 HW5.out).mono ?_
    rintro e w6 ⟨A3, c3, rfl, hc3, hats, hw6⟩
    have HW6 := Lib.hid (HW5.out.trans (hw6.mono HW5.out.size)); clear hw6 HW5 HALL
    have HATS := Lib.hid hats; clear hats
    go_wp2_with fail
    go_loopg [16, 17, 18] N (fun g s16 s17 s18 wx => ∃ (k : Nat) (p : Int) (mt : Bool), k + g = N ∧ s16 = .int .i64 p ∧ s17 = .bool mt ∧ s18 = .int .i64 (k : Int) ∧ (if mt then (p, true) else sk.find o (l.drop k)) = (F1, F2) ∧ (mt = false → p = 0) ∧ Below w6.heap.size w6 wx)
    case atStart => exact ⟨0, 0, false, by omega, rfl, rfl, rfl, by rw [HF.out]; rfl, fun _ => rfl, Below.refl _ _⟩
    case round =>
      obtain ⟨k, p, mt, hkg, rfl, rfl, rfl, hfd, hp0, hbr⟩ := hrel
      have HBR := Lib.hid hbr; clear hbr
      have HEND := Lib.hid (fun (V : World) (h : Below wr.heap.size wr V) => (HW6.out.trans (HBR.out.mono HW6.out.size)).trans (h.mono (HW6.out.trans (HBR.out.mono HW6.out.size)).size))
      by_cases hmt : mt = true
      · subst hmt
        obtain ⟨rfl, rfl⟩ : p = F1 ∧ true = F2 := by simpa using hfd
        clear hfd hp0
        by_cases hk : k < N
        all_goals
          go_wp2_with fail
          (try go_quiet (fail))
          go_wp2_with fail
          refine (HAW.out _).mono ?_
          rintro e w7 ⟨rfl, hb7⟩
          have HB7 := Lib.hid (HEND.out _ hb7); clear hb7
          go_wp2_with fail
          (try rw [Exit.noGoto_ret])
          go_ret
          exact ⟨rfl, HB7.out⟩
      · obtain rfl : mt = false := by simpa using hmt
        clear hmt
        obtain rfl : p = 0 := hp0 rfl
        clear hp0
        rw [if_neg (by simp)] at hfd
        cases gk with
        | zero =>
          obtain rfl : k = N := by omega
          rw [List.drop_of_length_le (by rw [← HN.out]; exact Nat.le_refl _)] at hfd
          obtain ⟨rfl, rfl⟩ : (0 : Int) = F1 ∧ false = F2 := by simpa [sk.find] using hfd
          clear hfd
          go_wp2_with fail
          (try go_quiet (fail))
          go_wp2_with fail
          refine (HAW.out _).mono ?_
          rintro e w7 ⟨rfl, hb7⟩
          have HB7 := Lib.hid (HEND.out _ hb7); clear hb7
          go_wp2_with fail
          (try rw [Exit.noGoto_ret])
          go_ret
          exact ⟨rfl, HB7.out⟩
        | succ g =>
          have hkN : k < N := by omega
          obtain ⟨y, hy⟩ : ∃ y, l[k]? = some y := ⟨_, List.getElem?_eq_getElem (by rw [← HN.out]; exact hkN)⟩
          rw [sk.find_drop o l k y hy] at hfd
          obtain ⟨at', b⟩ := y
          obtain ⟨b2, o2, v2, hA2, hb2l, d0, d1, d2, -⟩ := (HATS.out.below HBR.out (Nat.le_refl _)).get hy
          subst hA2
          dsimp only at d0 d1 d2 hfd
          have HFD := Lib.hid hfd; clear hfd
          clear hy hb2l
          by_cases hlo : b.last < o
          · have hfd := HFD.out
            rw [if_pos hlo] at hfd
            have HFD2 := Lib.hid hfd; clear hfd HFD
            go_wp2_with fail
            go_roundg g
            case measure => omega
            case rel => exact ⟨k + 1, 0, false, by omega, rfl, rfl, by go_num, by rw [if_neg (by simp)]; exact HFD2.out, fun _ => rfl, HBR.out⟩
          · have hfd := HFD.out
            rw [if_neg hlo] at hfd
            have HFD2 := Lib.hid hfd; clear hfd HFD
            have hle : o ≤ b.last := by omega
            go_wp2_with fail
            go_roundg g
            case measure => omega
            case rel => exact ⟨k + 1, (at' : Int), true, by omega, rfl, rfl, by go_num, by rw [if_pos rfl]; exact HFD2.out, (fun h => (by cases h)), HBR.out⟩
  · go_enter Try.func4, Try.ntmps4
    have h1 : 4000 < n := by omega
    clear hn5
    go_wp2_with fail
    refine (HAW.out w).mono ?_
    rintro e w1 ⟨rfl, hb1⟩
    go_wp2_with fail
    go_ret
    exact ⟨rfl, hb1⟩
end Go.Proofs.Ytchdolcnhopmjaa

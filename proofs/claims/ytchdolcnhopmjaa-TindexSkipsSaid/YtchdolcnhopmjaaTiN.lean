/- The walk of the law TindexBack: it answers true, whatever the input. -/
import Derived.Test.YtchdolcnhopmjaaWkD
import Derived.Test.YtchdolcnhopmjaaTiB
import Derived.Test.YtchdolcnhopmjaaWkG
namespace Go.Proofs.Ytchdolcnhopmjaa
open Go.RowKit Go.Shelf
attribute [local go_sem] Oper.semAt_some

/-- Is a record looked for? -/
def ti.hit (fr t : Int) (r : Rec) : Bool := decide (fr ≤ r.off) && decide (t ≤ r.time)
/-- All records of a walk. -/
def ti.recs (l : List (Nat × Bat)) : List Rec := (l.map fun x => x.2.recs).flatten
theorem ti.recs_snoc (l : List (Nat × Bat)) (x : Nat × Bat) : ti.recs (l ++ [x]) = ti.recs l ++ x.2.recs := by unfold ti.recs; simp
theorem ti.recs_app (l m : List (Nat × Bat)) : ti.recs (l ++ m) = ti.recs l ++ ti.recs m := by unfold ti.recs; simp
def ti.res : Option Rec → Int × Bool
  | none => (0, false)
  | some r => (r.off, true)
/-- What the body keeps. -/
def ti.FI (z f : Nat) (w : World) (t fr p : Int) (ok : Bool) (W : World) : Prop :=
  Boxed W (z + 1) 3 (.int .i64 p) ∧ Boxed W (z + 2) 4 (.bool ok) ∧ Boxed W z 3 (.int .i64 t) ∧ Boxed W f 3 (.int .i64 fr) ∧ Below z w W
theorem ti.FI.grow {z f : Nat} {w : World} {t fr p : Int} {ok : Bool} {W W' : World} {row : Option Nat} (h : ti.FI z f w t fr p ok W) (hz : z ≤ w.heap.size) (hg : W.grownBy W' row) (hr : ∀ r, row = some r → z ≤ r ∧ ∃ o : Obj, W.heap[r]? = some o ∧ o.isCells = false) : ti.FI z f w t fr p ok W' := by
  have hbx : ∀ {b : Nat} {t : TypeId} {v : Value}, Boxed W b t v → Boxed W' b t v := fun {b t v} h => h.kept hg fun e => by
    obtain ⟨o, ho, hc⟩ := (hr b e.symm).2
    rw [show W.heap[b]? = _ from h] at ho
    cases ho
    cases hc
  obtain ⟨h1, h2, h3, h4, h5⟩ := h
  exact ⟨hbx h1, hbx h2, hbx h3, hbx h4, h5.grown hg (Nat.le_trans hz h5.size) fun k e => (hr k e).1⟩
theorem ti.FI.below {z f : Nat} {w : World} {t fr p : Int} {ok : Bool} {W W' : World} (h : ti.FI z f w t fr p ok W) (hz : z ≤ w.heap.size) (hb : Below W.heap.size W W') : ti.FI z f w t fr p ok W' := h.grow hz (grown_by hb) fun r e => by cases e
def ti.GI (z f : Nat) (w : World) (t fr : Int) (pre : List WkX) (W : World) : Prop := ti.FI z f w t fr 0 false W ∧ (ti.recs (pre.map Prod.fst)).find? (ti.hit fr t) = none
def ti.GX (z f : Nat) (w : World) (t fr : Int) (pre : List WkX) (W : World) : Prop := ∃ r, ti.FI z f w t fr r.off true W ∧ (ti.recs (pre.map Prod.fst)).find? (ti.hit fr t) = some r
theorem ti.GI_own (z f : Nat) (w : World) (t fr : Int) (B : Nat) (hz : z ≤ w.heap.size) (hB : z ≤ B) : OwnFrom B (ti.GI z f w t fr) := fun _ _ _ _ h hg hr => ⟨h.1.grow hz hg fun r e => ⟨Nat.le_trans hB (hr r e).1, (hr r e).2⟩, h.2⟩
theorem ti.GX_own (z f : Nat) (w : World) (t fr : Int) (B : Nat) (hz : z ≤ w.heap.size) (hB : z ≤ B) : OwnFrom B (ti.GX z f w t fr) := fun _ _ _ _ h hg hr => by
  obtain ⟨r, h1, h2⟩ := h
  exact ⟨r, h1.grow hz hg fun r e => ⟨Nat.le_trans hB (hr r e).1, (hr r e).2⟩, h2⟩
/-- A round leaves the boxes so. -/
theorem ti.FI.step {z f : Nat} {w W V : World} {t fr p : Int} {ok : Bool} (B : Nat) (hz : z ≤ w.heap.size) (hf : z + 3 ≤ f) (h : ti.FI z f w t fr p ok W) (hb : Below W.heap.size W V) (p' : Int) (ok' : Bool) :
    (KeepsFrom B W V ∧ Kept [z + 1, z + 2] W V ∧ ti.FI z f w t fr p ok V) ∧ (KeepsFrom B W ((V.setCell ⟨z + 1, 0, none⟩ (.int .i64 p')).setCell ⟨z + 2, 0, none⟩ (.bool ok')) ∧ Kept [z + 1, z + 2] W ((V.setCell ⟨z + 1, 0, none⟩ (.int .i64 p')).setCell ⟨z + 2, 0, none⟩ (.bool ok')) ∧ ti.FI z f w t fr p' ok' ((V.setCell ⟨z + 1, 0, none⟩ (.int .i64 p')).setCell ⟨z + 2, 0, none⟩ (.bool ok'))) := by
  have hV := h.below hz hb
  have key : ∀ {U : World} {q : Int} {o : Bool}, Chg W U (fun k => k = z + 1 ∨ k = z + 2) → ti.FI z f w t fr q o U → KeepsFrom B W U ∧ Kept [z + 1, z + 2] W U ∧ ti.FI z f w t fr q o U := fun {U q o} c hU => by
    have hbs : ∀ b ∈ [z + 1, z + 2], b = z + 1 ∨ b = z + 2 := fun b hb => by simpa using hb
    refine ⟨keeps_chg c fun k hk => ?_, Kept.boxes c (fun k hk => .inl ?_) fun b hb => ?_, hU⟩
    · rcases hk with rfl | rfl
      · exact .of_boxed h.1
      · exact .of_boxed h.2.1
    · rcases hk with rfl | rfl <;> simp
    · rcases hbs b hb with rfl | rfl
      · exact ⟨.of_boxed hU.1, fun k e => by rw [boxOf_boxed hU.1] at e; cases e⟩
      · exact ⟨.of_boxed hU.2.1, fun k e => by rw [boxOf_boxed hU.2.1] at e; cases e⟩
  obtain ⟨v1, v2, v3, v4, v5⟩ := id hV
  refine ⟨key (chg_of hb) hV, key (((chg_of (P := fun k => k = z + 1 ∨ k = z + 2) hb).trans (Chg.setCell V (z + 1) 0 (.int .i64 p')) fun k _ h => .inl h).trans (Chg.setCell _ (z + 2) 0 (.bool ok')) fun k _ h => .inr h) ?_⟩
  exact ⟨(v1.set _).other (by omega) _, (v2.other (by omega) _).set _, (v3.other (by omega) _).other (by omega) _, (v4.other (by omega) _).other (by omega) _, (v5.setCell (p := ⟨z + 1, 0, none⟩) (by show z ≤ z + 1; omega) _).setCell (p := ⟨z + 2, 0, none⟩) (by show z ≤ z + 2; omega) _⟩
theorem ti.find_take {p : Rec → Bool} {rs : List Rec} {k : Nat} {x : Rec} (hx : rs[k]? = some x) (h : (rs.take k).find? p = none) : (p x = true → rs.find? p = some x) ∧ (p x = false → (rs.take (k + 1)).find? p = none) := by
  obtain ⟨hk, e⟩ := List.getElem?_eq_some_iff.1 hx
  refine ⟨fun hp => ?_, fun hp => ?_⟩
  · have : rs = rs.take k ++ (x :: rs.drop (k + 1)) := by rw [← e, ← List.drop_eq_getElem_cons hk, List.take_append_drop]
    rw [this, List.find?_append, h, List.find?_cons, hp]
    rfl
  · rw [List.take_succ_eq_append_getElem hk, List.find?_append, h, e, List.find?_cons, hp]
    rfl

set_option maxRecDepth 100000 in
set_option maxHeartbeats 4000000 in
theorem ti.find_any (A : Option Addr) (m c : Nat) (L : List Nat) (AE : Option Addr) (en ec : Nat) (f : Nat → Nat → Int) (t : Int) (w : World) (hL : ∀ x ∈ L, x < 256) (hlen : L.length = m) (hmc : m ≤ c) (hc : c ≤ maxLen) (hm : m ≤ 1000000) (hen : en ≤ 1099511627776) (hat : At w A m (byteAt L)) (hE : At2 w AE en f) :
    Calls Try.prog 24 #[.slice A m c, .slice AE en ec, .int .i64 t] w fun e w' => e = .returned (.tuple #[.int .i64 (ti.res ((ti.recs (dec.walk L)).find? (ti.hit (ti.look f t en) t))).1, .bool (ti.res ((ti.recs (dec.walk L)).find? (ti.hit (ti.look f t en) t))).2]) ∧ Below w.heap.size w w' := by
  refine (callsIn_wide (n := 5)).1 ?_
  have h1 : 1 ≤ 5 := by omega
  refine callsIn_of_wp_marks Try.func24 rfl trivial ?_ rfl
  simp only [Try.ntmps24, List.size_toArray, List.length_cons, List.length_nil, Nat.reduceAdd, Nat.reduceSub, Array.replicate_succ, Array.replicate_zero, List.push_toArray, List.append_toArray, List.nil_append, List.cons_append]
  have HAT := Lib.hid hat; clear hat
  have HL := Lib.hid hL; clear hL
  have HLEN := Lib.hid hlen; clear hlen
  gi_wp2_with fail
  obtain ⟨w0, hw0⟩ : ∃ w0, w0 = ((w.alloc (.cells #[.int .i64 t] 3)).alloc (.cells #[.int .i64 0] 3)).alloc (.cells #[.bool false] 4) := ⟨_, rfl⟩
  rw [← hw0]
  have hB0 : Below w.heap.size w w0 := by rw [hw0]; exact (((Below.refl _ w).alloc (Nat.le_refl _) _).alloc (by simp) _).alloc (by simp; omega) _
  have bE : Boxed w0 w.heap.size 3 (.int .i64 t) := by rw [hw0]; exact ((Boxed.new w _ _).alloc _).alloc _
  have bP : Boxed w0 (w.heap.size + 1) 3 (.int .i64 0) := by
    rw [hw0]
    have h := Boxed.new (w.alloc (.cells #[.int .i64 t] 3)) 3 (.int .i64 0)
    rw [World.size_alloc] at h
    exact h.alloc _
  have bO : Boxed w0 (w.heap.size + 2) 4 (.bool false) := by
    rw [hw0]
    have h := Boxed.new ((w.alloc (.cells #[.int .i64 t] 3)).alloc (.cells #[.int .i64 0] 3)) 4 (.bool false)
    rw [World.size_alloc, World.size_alloc] at h
    exact h
  have hz0 : w0.heap.size = w.heap.size + 3 := by rw [hw0]; simp
  clear hw0
  have cO := bE.cell
  refine wpIn_scope' ?_
  gi_wp2_with fail
  refine ⟨trivial, ?_⟩
  refine (callsIn_wide.2 (ti.lookup_any AE en ec f t w0 hen (hE.below hB0 (Nat.le_refl _)))).mono ?_
  rintro e wl ⟨rfl, hbl⟩
  obtain ⟨fr, hfr⟩ : ∃ fr, fr = ti.look f t en := ⟨_, rfl⟩
  rw [← hfr]
  have HFR := Lib.hid hfr; clear hfr hE cO
  have hBl : Below w.heap.size w wl := hB0.trans (hbl.mono hB0.size)
  have hzl : w.heap.size + 3 ≤ wl.heap.size := by have := hbl.size; omega
  have hbx0 : ∀ {b : Nat} {t : TypeId} {v : Value}, Boxed w0 b t v → Boxed wl b t v := fun h => h.kept (grown_by hbl) (by simp)
  have bE := hbx0 bE
  have bP := hbx0 bP
  have bO := hbx0 bO
  clear hbx0 hbl hz0 hB0
  gi_wp2_with fail
  obtain ⟨f0, hf0⟩ : ∃ f0, f0 = wl.heap.size := ⟨_, rfl⟩
  obtain ⟨w1, hw1⟩ : ∃ w1, w1 = wl.alloc (.cells #[.int .i64 fr] 3) := ⟨_, rfl⟩
  rw [← hw1, ← hf0]
  have bF : Boxed w1 f0 3 (.int .i64 fr) := by rw [hw1, hf0]; exact Boxed.new wl 3 (.int .i64 fr)
  have hb01 : Below wl.heap.size wl w1 := by rw [hw1]; exact (Below.refl _ _).alloc (Nat.le_refl _) _
  have hz1 : w1.heap.size = f0 + 1 := by rw [hw1, World.size_alloc, hf0]
  clear hw1
  have hB1 : Below w.heap.size w w1 := hBl.trans (hb01.mono hBl.size)
  have hbx0 : ∀ {b : Nat} {t : TypeId} {v : Value}, Boxed wl b t v → Boxed w1 b t v := fun h => h.kept (grown_by hb01) (by simp)
  have bE := hbx0 bE
  have bP := hbx0 bP
  have bO := hbx0 bO
  rw [← hf0] at hzl
  clear hbx0 hb01 hf0
  refine wpIn_label ?_
  gi_wp2_with fail
  refine ⟨trivial, ?_⟩
  refine (callsIn_wide.2 (bat.walk_any A m c w1)).mono ?_
  rintro e w2 ⟨rfl, hw2⟩
  rw [hz1]
  have hb2 : Below w1.heap.size w1 w2 := by rw [hw2]; exact (Below.refl _ _).alloc (Nat.le_refl _) _
  have hkp : Blk w2 (f0 + 1) 22 #[.slice A m c] := by
    rw [hw2]
    have h := Blk.new w1 22 #[.slice A m c]
    rwa [hz1] at h
  have hz2 : w2.heap.size = f0 + 2 := by rw [hw2, World.size_alloc, hz1]
  clear hw2
  have hbx : ∀ {b : Nat} {t : TypeId} {v : Value}, Boxed w1 b t v → Boxed w2 b t v := fun h => h.kept (grown_by hb2) (by simp)
  have bE2 := hbx bE
  have bP2 := hbx bP
  have bO2 := hbx bO
  have bF2 := hbx bF
  have hB2 : Below w.heap.size w w2 := hB1.trans (hb2.mono hB1.size)
  have hbs : ∀ b ∈ [w.heap.size + 1, w.heap.size + 2], b = w.heap.size + 1 ∨ b = w.heap.size + 2 := fun b hb => by simpa using hb
  have hnb : ∀ b ∈ [w.heap.size + 1, w.heap.size + 2], boxOf w2 b = none := fun b hb => by
    rcases hbs b hb with rfl | rfl
    · rw [boxOf_boxed bP2]; rfl
    · rw [boxOf_boxed bO2]; rfl
  have hin : InB [w.heap.size + 1, w.heap.size + 2] w2 := fun b hb => ⟨by
    rcases hbs b hb with rfl | rfl
    · exact .of_boxed bP2
    · exact .of_boxed bO2, fun k e => by rw [hnb b hb] at e; cases e⟩
  have hsafe : ∀ k, k ≠ w.heap.size + 1 → k ≠ w.heap.size + 2 → Safe [w.heap.size + 1, w.heap.size + 2] w2 k := fun k hk1 hk2 => ⟨fun h => by
    rcases hbs k h with rfl | rfl
    · exact hk1 rfl
    · exact hk2 rfl, fun b hb e => by rw [hnb b hb] at e; cases e⟩
  have hsrc : Dep (Safe [w.heap.size + 1, w.heap.size + 2] w2) w2 (wk.Src (f0 + 1) A m c L) := (Dep.blk hkp (hsafe _ (by omega) (by omega))).both (Dep.at' (HAT.out.below hB2 (Nat.le_refl _)) fun hp b off e => by
    obtain ⟨b', off', e', hb', -⟩ := HAT.out hp
    rw [e] at e'
    cases e'
    exact hsafe _ (by omega) (by omega))
  clear bE bP bO bF hbx hkp hnb hsafe hB1 hb2 hBl
  gi_wp2_with fail
  refine for_eachB (F := Fence.wide) (n := 5) rfl h1 (gf := 49) (lb := #[.pointer (some ⟨f0 + 1, 0, none⟩)]) rfl trivial (enters_of Try.func49 (by kernel_rfl) rfl)
    (bat.hands 4 (by omega) (f0 + 1) [w.heap.size + 1, w.heap.size + 2] A m c L w2 HL.out HLEN.out hmc hc hm hin hsrc) (Below.refl _ _) Kept.trans
    (fun W o h => Kept.alloc o fun b hb => by rcases hbs b hb with rfl | rfl <;> omega) (fun W l o o' hl ho hcc _ => Kept.put ho hcc fun b hb => by rcases hbs b hb with rfl | rfl <;> omega) (fun _ => rfl)
    (fun pre W => ti.GI w.heap.size f0 w t fr pre W) (fun cd pre W => cd = .exit 0 ∧ ti.GX w.heap.size f0 w t fr pre W)
    (ti.GI_own _ _ _ _ _ _ (Nat.le_refl _) (by omega)) (fun cd s X Y row hs hg hr => ⟨hs.1, ti.GX_own _ _ _ _ _ w2.heap.size (Nat.le_refl _) (by omega) s X Y row hs.2 hg hr⟩) (wk.R_own _ _ _) (fun _ _ _ _ h _ _ => h) (fun _ _ _ _ h _ _ => h)
    ⟨⟨bP2, bO2, bE2, bF2, hB2⟩, rfl⟩ 50 wk.cells
    (fun x g => { tmps := #[.slice A m c, .slice AE en ec, .int .i64 t, undef, undef, .pointer (some ⟨w.heap.size, 0, none⟩), .pointer (some ⟨w.heap.size + 1, 0, none⟩), .pointer (some ⟨w.heap.size + 1 + 1, 0, none⟩), .pointer (some ⟨f0, 0, none⟩), undef, .pointer (some ⟨g, 0, none⟩), undef, undef, .slice AE en ec, .int .i64 t, .int .i64 fr, .slice A m c, .func (.func 49) #[] #[.pointer (some ⟨f0 + 1, 0, none⟩)], .int .i64 (x.1.1 : Int), .agg (wk.cells x), undef, undef, undef, undef, undef, undef, undef, undef, undef, undef, undef, undef, undef, undef, undef, undef, undef, undef, undef, undef, undef, undef], defers := [] }) ?assign ?body ?done ?stop
  case assign =>
    rintro l ⟨⟨at', b⟩, ⟨A2, c2⟩⟩ W K hK
    unfold wk.encs Bat.hval
    unfold wk.cells at hK
    dsimp only at hK ⊢
    gi_wp2
    exact hK
  case body =>
    rintro l pre ⟨⟨at', b⟩, ⟨A2, c2⟩⟩ g W hg1 hg2 hk ⟨hI, hnf⟩ ⟨-, hdep, u, his⟩ hlt
    unfold wk.cells at hk ⊢
    dsimp only at hk hdep his ⊢
    have h100 := (Bat.check_ok his.check).2.1
    have hmp : (pre ++ [((at', b), (A2, c2))]).map Prod.fst = pre.map Prod.fst ++ [(at', b)] := by simp
    have hcl : ∀ (o : Option Rec), b.recs.find? (ti.hit fr t) = o → (ti.recs ((pre ++ [((at', b), (A2, c2))]).map Prod.fst)).find? (ti.hit fr t) = o := fun o h => by
      rw [hmp, ti.recs_snoc, List.find?_append, hnf]
      exact h
    have HCL := Lib.hid hcl; clear hcl hmp hnf
    have HREC := Lib.hid hdep.now; clear hdep his
    have g5 : W.cell? ⟨g, 0 + 5, none⟩ = some (.slice A2 b.recs.length c2) := hk.cell 5 rfl
    have HI := Lib.hid hI; clear hI hk
    obtain ⟨nr, hnr⟩ : ∃ nr, nr = b.recs.length := ⟨_, rfl⟩
    rw [← hnr] at g5 h100
    have HNR := Lib.hid hnr; clear hnr
    have hzW := HI.out.2.2.2.2.size
    gi_wp2_with fail
    gi_loopw [23] (fun i wr => ∃ k : Nat, k ≤ nr ∧ i = .int .i64 (k : Int) ∧ (b.recs.take k).find? (ti.hit fr t) = none ∧ Below W.heap.size W wr) (fun i _ => nr - (intOf i).toNat)
    case atStart => exact ⟨0, by omega, rfl, rfl, Below.refl _ _⟩
    case round =>
      obtain ⟨k, hkn, rfl, hfd, hbw⟩ := hrel
      clear g5
      have HBW := Lib.hid hbw; clear hbw
      have HFD := Lib.hid hfd; clear hfd
      by_cases hlt2 : k < nr
      · obtain ⟨x, hx⟩ : ∃ x, b.recs[k]? = some x := ⟨_, List.getElem?_eq_getElem (by rw [← HNR.out]; exact hlt2)⟩
        obtain ⟨p, off, c', kv, vv, hA, -, -, hp, d0, d1, d2, d3, d4, d5, hkk, hvv, -, -⟩ := (HREC.out.below HBW.out (Nat.le_refl _)).at' hx
        obtain ⟨rfl, rfl⟩ : A2 = some ⟨p, off, none⟩ ∧ c2 = c' := by simpa using hA
        obtain ⟨Ak, ck, rfl, -, -, -, -⟩ := hkk
        obtain ⟨Av, cv, rfl, -, -, -, -⟩ := hvv
        obtain ⟨f1, f2⟩ := ti.find_take hx HFD.out
        have HX := Lib.hid (And.intro f1 f2); clear f1 f2 hx hA HFD
        have hIw := HI.out.below (Nat.le_refl _) HBW.out
        obtain ⟨b1, b2, b0, bf, hBw⟩ := id hIw
        have c0 := b0.cell
        have c1 := b1.cell
        have c2' : wr.cell? ⟨w.heap.size + 1 + 1, 0, none⟩ = some (.bool false) := b2.cell
        have cf := bf.cell
        have z1 := b1.frozen
        have z2 : wr.frozen? ⟨w.heap.size + 1 + 1, 0, none⟩ = false := b2.frozen
        have l0 : w.heap.size < wr.heap.size := b0.lt
        have l1 : w.heap.size + 1 < wr.heap.size := b1.lt
        have l2 : w.heap.size + 1 + 1 < wr.heap.size := b2.lt
        have lf : f0 < wr.heap.size := bf.lt
        clear b0 b1 b2 bf hBw
        have hstep := fun V hb => ti.FI.step (V := V) w2.heap.size (Nat.le_refl _) hzl HI.out hb x.off true
        have HSTEP := Lib.hid hstep; clear hstep hIw
        by_cases h0 : fr ≤ x.off
        · by_cases h1 : t ≤ x.time
          · have hy := HX.out.1 (by unfold ti.hit; simp [h0, h1])
            have HY := Lib.hid (HCL.out _ hy); clear hy HX
            gi_wp2_with fail
            have h := (HSTEP.out _ (HBW.out.alloc HBW.out.size (.cells #[.int .i64 x.off, .int .i64 x.time, .bool x.hasKey, .slice Ak x.key.length ck, .bool x.hasVal, .slice Av x.val.length cv] 61))).2
            rw [World.setCell_alloc_past _ (w.heap.size + 1) 0 _ l1, World.setCell_alloc_past _ (w.heap.size + 2) 0 _ (by simp; exact l2)] at h
            exact ⟨h.1, h.2.1, rfl, x, h.2.2, HY.out⟩
          · have hy := HX.out.2 (by unfold ti.hit; simp [h1])
            have HY := Lib.hid hy; clear hy HX
            gi_wp2_with fail
            go_roundw
            case rel => exact ⟨k + 1, by omega, by go_num, HY.out, HBW.out.alloc HBW.out.size _⟩
            case measure => simp [intOf]; omega
        · have hy := HX.out.2 (by unfold ti.hit; simp [h0])
          have HY := Lib.hid hy; clear hy HX
          have hd : decide (fr ≤ x.off) = false := by simpa using h0
          gi_wp2_with fail
          go_roundw
          case rel => exact ⟨k + 1, by omega, by go_num, HY.out, HBW.out.alloc HBW.out.size _⟩
          case measure => simp [intOf]; omega
      · obtain rfl : k = nr := by omega
        have hfd := HFD.out
        rw [List.take_of_length_le (by rw [← HNR.out]; exact Nat.le_refl _)] at hfd
        have HY := Lib.hid (HCL.out _ hfd); clear hfd HFD
        have h := (ti.FI.step w2.heap.size (Nat.le_refl _) hzl HI.out HBW.out 0 true).1
        have HH := Lib.hid h; clear h
        gi_wp2_with fail
        exact ⟨HH.out.1, HH.out.2.1, HH.out.2.2, HY.out⟩
  case done =>
    rintro D xs W hD hS ⟨⟨b1, b2, be, bf, hB⟩, hnf⟩ hK
    have hS : xs.map Prod.fst = dec.walk L := hS
    rw [hS] at hnf
    have HGO := Lib.hid hnf
    have c1 := b1.cell
    have c2 : W.cell? ⟨w.heap.size + 1 + 1, 0, none⟩ = some (.bool false) := b2.cell
    have f1 := b1.frozen
    have f2 : W.frozen? ⟨w.heap.size + 1 + 1, 0, none⟩ = false := b2.frozen
    have HH := Lib.hid (And.intro b1 (And.intro b2 hB)); clear b1 b2 be bf hB hnf hS
    gi_wp2_with fail
    gi_region
    gi_wp2_with fail
    obtain ⟨V, hVe⟩ : ∃ V, V = ((W.setCell ⟨w.heap.size + 1, 0, none⟩ (.int .i64 0)).setCell ⟨w.heap.size + 1 + 1, 0, none⟩ (.bool false)).drew := ⟨_, rfl⟩
    rw [← hVe]
    have hV1 : Boxed V (w.heap.size + 1) 3 (.int .i64 0) := by rw [hVe]; exact (HH.out.1.set _).other (show w.heap.size + 1 ≠ w.heap.size + 2 by omega) (.bool false)
    have hV2 : Boxed V (w.heap.size + 2) 4 (.bool false) := by rw [hVe]; exact (HH.out.2.1.other (show w.heap.size + 2 ≠ w.heap.size + 1 by omega) (.int .i64 0)).set _
    have hcg : Chg W V (fun k => k = w.heap.size + 1 ∨ k = w.heap.size + 2) := by rw [hVe]; exact ((((Chg.refl W _).trans (Chg.setCell W (w.heap.size + 1) 0 (.int .i64 0)) fun k _ h => .inl h)).trans (Chg.setCell _ (w.heap.size + 2) 0 (.bool false)) fun k _ h => .inr h).drew
    clear hVe
    have hKV : V.heap[D]? = some (.deferred (some [])) := (hcg.block D (heap_in hK) (by omega)).trans hK
    have hput : ∀ o', Boxed (V.putObj D o') (w.heap.size + 1) 3 (.int .i64 0) ∧ Boxed (V.putObj D o') (w.heap.size + 2) 4 (.bool false) := fun o' => ⟨(Dep.blk (Z := fun _ => True) hV1 trivial).put hKV rfl, (Dep.blk (Z := fun _ => True) hV2 trivial).put hKV rfl⟩
    have hBV : Below w.heap.size w V := HH.out.2.2.trans (hcg.below HH.out.2.2.size fun k hk => by omega)
    (try rw [Exit.noGoto_ret])
    refine ⟨by simp, .inl ⟨_, _, rfl, run_takeDeferred hKV, ?_⟩⟩
    refine ⟨_, results_cells2 rfl _ _ ⟨w.heap.size + 1, 0, none⟩ ⟨w.heap.size + 2, 0, none⟩ rfl rfl (loadVar_int (hput _).1.cell) (loadVar_bool (hput _).2.cell), ?_⟩
    exact ⟨by rw [← HFR.out, HGO.out]; rfl, hBV.trans (belowK_b (w := w) (Nat.le_refl _) V D _ _ (by omega) hKV rfl rfl)⟩
  case stop =>
    rintro D cd pre W hD hpre ⟨rfl, r, ⟨b1, b2, be, bf, hB⟩, hnf⟩ hK
    obtain ⟨rest, hr⟩ := hpre
    have HGO := Lib.hid (show (ti.recs (dec.walk L)).find? (ti.hit fr t) = some r by rw [← hr, ti.recs_app, List.find?_append, hnf]; rfl)
    have c1 := b1.cell
    have c2 : W.cell? ⟨w.heap.size + 1 + 1, 0, none⟩ = some (.bool true) := b2.cell
    have f1 := b1.frozen
    have f2 : W.frozen? ⟨w.heap.size + 1 + 1, 0, none⟩ = false := b2.frozen
    have HH := Lib.hid (And.intro b1 (And.intro b2 hB)); clear b1 b2 be bf hB hnf hr
    gi_wp2_with fail
    gi_region
    gi_wp2_with fail
    obtain ⟨V, hVe⟩ : ∃ V, V = ((W.setCell ⟨w.heap.size + 1, 0, none⟩ (.int .i64 r.off)).setCell ⟨w.heap.size + 1 + 1, 0, none⟩ (.bool true)).drew := ⟨_, rfl⟩
    rw [← hVe]
    have hV1 : Boxed V (w.heap.size + 1) 3 (.int .i64 r.off) := by rw [hVe]; exact (HH.out.1.set _).other (show w.heap.size + 1 ≠ w.heap.size + 2 by omega) (.bool true)
    have hV2 : Boxed V (w.heap.size + 2) 4 (.bool true) := by rw [hVe]; exact (HH.out.2.1.other (show w.heap.size + 2 ≠ w.heap.size + 1 by omega) (.int .i64 r.off)).set _
    have hcg : Chg W V (fun k => k = w.heap.size + 1 ∨ k = w.heap.size + 2) := by rw [hVe]; exact ((((Chg.refl W _).trans (Chg.setCell W (w.heap.size + 1) 0 (.int .i64 r.off)) fun k _ h => .inl h)).trans (Chg.setCell _ (w.heap.size + 2) 0 (.bool true)) fun k _ h => .inr h).drew
    clear hVe
    have hKV : V.heap[D]? = some (.deferred (some [])) := (hcg.block D (heap_in hK) (by omega)).trans hK
    have hput : ∀ o', Boxed (V.putObj D o') (w.heap.size + 1) 3 (.int .i64 r.off) ∧ Boxed (V.putObj D o') (w.heap.size + 2) 4 (.bool true) := fun o' => ⟨(Dep.blk (Z := fun _ => True) hV1 trivial).put hKV rfl, (Dep.blk (Z := fun _ => True) hV2 trivial).put hKV rfl⟩
    have hBV : Below w.heap.size w V := HH.out.2.2.trans (hcg.below HH.out.2.2.size fun k hk => by omega)
    (try rw [Exit.noGoto_ret])
    refine ⟨by simp, .inl ⟨_, _, rfl, run_takeDeferred hKV, ?_⟩⟩
    refine ⟨_, results_cells2 rfl _ _ ⟨w.heap.size + 1, 0, none⟩ ⟨w.heap.size + 2, 0, none⟩ rfl rfl (loadVar_int (hput _).1.cell) (loadVar_bool (hput _).2.cell), ?_⟩
    exact ⟨by rw [← HFR.out, HGO.out]; rfl, hBV.trans (belowK_b (w := w) (Nat.le_refl _) V D _ _ (by omega) hKV rfl rfl)⟩

attribute [local go_sem] Oper.semAt_some

theorem ti.look_in (f : Nat → Nat → Int) (t : Int) (E : List (Int × Int)) (hf : ∀ (i : Nat) (e : Int × Int), E[i]? = some e → f i 0 = e.1 ∧ f i 1 = e.2) : ∀ k, k ≤ E.length → 0 ≤ ti.look f t k ∧ (ti.look f t k = 0 ∨ ∃ e ∈ E, e.1 < t ∧ ti.look f t k = e.2)
  | 0, _ => ⟨Int.le_refl _, .inl rfl⟩
  | k + 1, hk => by
    obtain ⟨e, he⟩ : ∃ e, E[k]? = some e := ⟨_, List.getElem?_eq_getElem (by omega)⟩
    obtain ⟨h1, h2⟩ := hf k e he
    obtain ⟨i1, i2⟩ := ti.look_in f t E hf k (by omega)
    unfold ti.look
    split
    · rename_i h
      by_cases hm : f k 1 ≤ ti.look f t k
      · rw [show max (ti.look f t k) (f k 1) = ti.look f t k by omega]
        exact ⟨i1, i2⟩
      · rw [show max (ti.look f t k) (f k 1) = f k 1 by omega]
        exact ⟨by omega, .inr ⟨e, List.mem_of_getElem? he, by omega, h2⟩⟩
    · exact ⟨i1, i2⟩
/-- All records ahead of where a time is looked for are of an earlier time. -/
theorem ti.skips {L : List Nat} (hL : ∀ x ∈ L, x < 256) (mm t : Int) :
    0 ≤ ti.look (ti.num (ti.st mm (dec.walk L)).2.2) t (ti.st mm (dec.walk L)).2.2.length ∧ ∀ x ∈ dec.walk L, ∀ r ∈ x.2.recs, r.off < ti.look (ti.num (ti.st mm (dec.walk L)).2.2) t (ti.st mm (dec.walk L)).2.2.length → r.time < t := by
  have hinv := ti.inv_walk hL mm
  obtain ⟨h0, h1⟩ := ti.look_in (ti.num (ti.st mm (dec.walk L)).2.2) t _ (fun i e h => ti.num_at h) _ (Nat.le_refl _)
  refine ⟨h0, fun x hx r hr hlt => ?_⟩
  have hok := ti.walk_ok hL x hx
  have hro := hok.2.2.2 r hr
  rcases h1 with h1 | ⟨e, he, h2, h3⟩
  · have := hok.1
    omega
  · rw [h3] at hlt
    obtain ⟨-, -, ⟨y, hy, hye⟩, h4⟩ := hinv.ents e he
    have hoy := ti.walk_ok hL y hy
    have hlast : x.2.last < e.2 := by
      have hp := ti.walk_rise hL
      obtain ⟨i, hi, hix⟩ := List.mem_iff_getElem.1 hx
      obtain ⟨j, hj, hjy⟩ := List.mem_iff_getElem.1 hy
      have hpi := List.pairwise_iff_getElem.1 hp
      rcases Nat.lt_trichotomy i j with hij | hij | hij
      · have h := hpi i j hi hj hij
        rw [hix, hjy] at h
        have := h.2
        omega
      · subst hij
        rw [hix] at hjy
        subst hjy
        omega
      · have h := hpi j i hj hi hij
        rw [hix, hjy] at h
        have := h.2
        have := hoy.2.1
        omega
    have := h4 x hx hlast r hr
    omega
theorem ti.find_same {p q : Rec → Bool} : ∀ (l : List Rec), (∀ x ∈ l, p x = q x) → l.find? p = l.find? q
  | [], _ => rfl
  | x :: l, h => by
    rw [List.find?_cons, List.find?_cons, h x (List.mem_cons_self ..), ti.find_same l fun y hy => h y (List.mem_cons_of_mem _ hy)]
def ti.hit0 (t : Int) (r : Rec) : Bool := decide (t ≤ r.time)
/-- With its own index a time is found where a walk finds it. -/
theorem ti.finds {L : List Nat} (hL : ∀ x ∈ L, x < 256) (mm t : Int) :
    (ti.recs (dec.walk L)).find? (ti.hit (ti.look (ti.num (ti.st mm (dec.walk L)).2.2) t (ti.st mm (dec.walk L)).2.2.length) t) = (ti.recs (dec.walk L)).find? (ti.hit0 t) := by
  obtain ⟨-, h⟩ := ti.skips hL mm t
  generalize ti.look (ti.num (ti.st mm (dec.walk L)).2.2) t (ti.st mm (dec.walk L)).2.2.length = fr at *
  refine ti.find_same _ fun r hr => ?_
  obtain ⟨l, hl, hrl⟩ := List.mem_flatten.1 hr
  obtain ⟨x, hx, rfl⟩ := List.mem_map.1 hl
  have h1 := h x hx r hrl
  unfold ti.hit ti.hit0
  by_cases h2 : fr ≤ r.off
  · rw [decide_eq_true h2, Bool.true_and]
  · rw [decide_eq_false (show ¬ t ≤ r.time by have := h1 (by omega); omega)]
    simp

set_option maxRecDepth 100000 in
set_option maxHeartbeats 4000000 in
theorem ti.lawSkips (A : Option Addr) (n c : Nat) (z : List Int) (every t : Int) (w : World) (hm : z.length = n ∧ n ≤ c ∧ c ≤ maxLen) (hat0 : At w A n (fun j => .int .u8 (z.getD j 0))) (hz : ∀ x ∈ z, (Lit.int .u8 x).wf = true) :
    Calls Try.prog 8 #[.slice A n c, .int .i64 every, .int .i64 t] w fun e w' => e = .returned (.bool true) ∧ Below w.heap.size w w' := by
  obtain ⟨hzn, hnc, hcm⟩ := hm
  obtain ⟨hat, hby0⟩ := ints_bytes hat0 hzn hz
  obtain ⟨L, hL⟩ : ∃ L, L = z.map Int.toNat := ⟨_, rfl⟩
  have hln : L.length = n := by rw [hL, List.length_map]; exact hzn
  rw [← hL] at hat hby0
  have hby : ∀ x ∈ L, x < 256 := by
    intro x hx
    obtain ⟨j, hj⟩ := List.mem_iff_getElem?.1 hx
    have h1 := (List.getElem?_eq_some_iff.1 hj).1
    have h2 := hby0 j (by omega)
    simpa [List.getD, hj] using h2
  clear hby0 hat0 hz hzn hL
  have HAW := Lib.hid (fun wx => ti.awake_any wx)
  by_cases hn5 : n ≤ 4000
  · have hall := fun wx (h : Below w.heap.size w wx) => ref.all_any A c n L wx hln (hat.below h (Nat.le_refl _)) hby hnc hcm (by omega)
    have hbld := ti.build_any A n c L every w hby hln hnc hcm (by omega) hat
    have hwl := dec.walk_len hby
    rw [hln] at hwl
    obtain ⟨hf0, hsk⟩ := ti.skips hby (max every 1) t
    have hrl : ∀ x ∈ dec.walk L, x.2.recs.length ≤ 100 := fun x hx => by
      obtain ⟨u, his⟩ := dec.walk_is hby x hx
      exact (Bat.check_ok his.check).2.1
    unfold wa.Post at hall
    unfold ti.Post at hbld
    have hEl := ti.st_len (max every 1) (dec.walk L)
    obtain ⟨E, hE⟩ : ∃ E, E = (ti.st (max every 1) (dec.walk L)).2.2 := ⟨_, rfl⟩
    rw [← hE] at hbld hf0 hsk hEl
    obtain ⟨l, hl⟩ : ∃ l, l = dec.walk L := ⟨_, rfl⟩
    rw [← hl] at hwl hall hsk hrl hEl
    clear hE
    obtain ⟨fr, hfr⟩ : ∃ fr, fr = ti.look (ti.num E) t E.length := ⟨_, rfl⟩
    have hlk := fun wx A1 c1 (hT : At wx A1 (E.length * 2) (fun j => (ti.row E).getD j undef)) => ti.lookup_any A1 E.length c1 (ti.num E) t wx (by omega) (ti.at2 hT)
    rw [← hfr] at hf0 hsk hlk
    obtain ⟨N, hN⟩ : ∃ N, N = l.length := ⟨_, rfl⟩
    rw [← hN] at hall hwl
    obtain ⟨en, hen⟩ : ∃ en, en = E.length := ⟨_, rfl⟩
    rw [← hen] at hbld hlk
    have HB := Lib.hid hbld; clear hbld
    have HLK := Lib.hid hlk; clear hlk
    have HALL := Lib.hid hall; clear hall
    have HSK := Lib.hid hsk; clear hsk
    have HRL := Lib.hid hrl; clear hrl
    have HN := Lib.hid hN; clear hN hl hfr hen hEl
    clear hat hby hln
    go_enter Try.func8, Try.ntmps8
    go_wp2_with fail
    refine HB.out.mono ?_
    rintro e w1 ⟨A1, c1, rfl, -, hT, hw1⟩
    have HT := Lib.hid hT; clear hT
    have HW1 := Lib.hid hw1; clear hw1 HB
    go_wp2_with fail
    refine (HLK.out w1 A1 c1 HT.out).mono ?_
    rintro e w2 ⟨rfl, hw2⟩
    have HW2 := Lib.hid (HW1.out.trans (hw2.mono HW1.out.size)); clear hw2 HW1 HT HLK
    go_wp2_with fail
    refine (HALL.out w2 HW2.out).mono ?_
    rintro e w3 ⟨A3, c3, rfl, hc3, hats, hw3⟩
    have HW3 := Lib.hid (HW2.out.trans (hw3.mono HW2.out.size)); clear hw3 HW2 HALL
    have HATS := Lib.hid hats; clear hats
    go_wp2_with fail
    go_loopg [9] N (fun g s9 wx => ∃ k : Nat, k + g = N ∧ s9 = .int .i64 (k : Int) ∧ Below w3.heap.size w3 wx)
    case atStart => exact ⟨0, by omega, rfl, Below.refl _ _⟩
    case round =>
      obtain ⟨k, hkg, rfl, hbr⟩ := hrel
      have HBR := Lib.hid hbr; clear hbr
      cases gk with
      | zero =>
        obtain rfl : k = N := by omega
        have HEND := Lib.hid (fun (V : World) (h : Below wr.heap.size wr V) => (HW3.out.trans (HBR.out.mono HW3.out.size)).trans (h.mono (HW3.out.trans (HBR.out.mono HW3.out.size)).size))
        go_wp2_with fail
        refine (HAW.out _).mono ?_
        rintro e w7 ⟨rfl, hb7⟩
        have HB7 := Lib.hid (HEND.out _ hb7); clear hb7
        go_wp2_with fail
        (try rw [Exit.noGoto_ret])
        go_ret
        exact ⟨rfl, HB7.out⟩
      | succ g =>
        have hkN : k < N := by omega
        obtain ⟨y, hy⟩ : ∃ y, l[k]? = some y := ⟨_, List.getElem?_eq_getElem (by rw [← HN.out]; exact hkN)⟩
        have hsky := HSK.out y (List.mem_of_getElem? hy)
        have hrly := HRL.out y (List.mem_of_getElem? hy)
        obtain ⟨at', b⟩ := y
        dsimp only at hsky hrly
        obtain ⟨b2, o2, v2, hA2, hb2l, -, -, -, -, -, -, d6, hrec⟩ := (HATS.out.below HBR.out (Nat.le_refl _)).get hy
        subst hA2
        dsimp only at d6 hrec
        obtain ⟨A4, c4, V4, rfl, -⟩ := id hrec
        have HREC := Lib.hid hrec; clear hrec
        have HSY := Lib.hid hsky; clear hsky hy
        obtain ⟨M, hM⟩ : ∃ M, M = b.recs.length := ⟨_, rfl⟩
        rw [← hM] at d6 hrly
        have HM := Lib.hid hM; clear hM
        have HD6 := Lib.hid d6; clear d6
        go_wp2_with fail
        go_loopg [10] M (fun g s10 wy => ∃ j : Nat, j + g = M ∧ s10 = .int .i64 (j : Int) ∧ Below wr.heap.size wr wy)
        case atStart => exact ⟨0, by omega, rfl, Below.refl _ _⟩
        case round =>
          obtain ⟨j, hjg, rfl, hby⟩ := hrel
          have HBY := Lib.hid hby; clear hby
          have e6 := HBY.out.cell (p := ⟨b2, o2 + k * 7 + 6, none⟩) hb2l
          rw [HD6.out] at e6
          cases gk with
          | zero =>
            obtain rfl : j = M := by omega
            go_wp2_with fail
            go_roundg g
            case measure => omega
            case rel => exact ⟨k + 1, by omega, by go_num, HBR.out.trans (HBY.out.mono HBR.out.size)⟩
          | succ g2 =>
            have hjM : j < M := by omega
            obtain ⟨x, hx⟩ : ∃ x, b.recs[j]? = some x := ⟨_, List.getElem?_eq_getElem (by rw [← HM.out]; exact hjM)⟩
            have hsx := HSY.out x (List.mem_of_getElem? hx)
            obtain ⟨p, off, c', kv, vv, hA, -, -, hp, q0, q1, q2, q3, q4, q5, hkk, hvv, -, -⟩ := (HREC.out.below HBY.out (Nat.le_refl _)).at' hx
            obtain ⟨rfl, rfl⟩ : A4 = some ⟨p, off, none⟩ ∧ c4 = c' := by simpa using hA
            obtain ⟨Ak, ck, rfl, -, -, -, -⟩ := hkk
            obtain ⟨Av, cv, rfl, -, -, -, -⟩ := hvv
            clear hx hA
            by_cases h0 : x.off < fr
            · have h1 : x.time < t := hsx h0
              clear hsx
              go_wp2_with fail
              go_roundg g2
              case measure => omega
              case rel => exact ⟨j + 1, by omega, by go_num, HBY.out.alloc HBY.out.size _⟩
            · have hd : decide (x.off < fr) = false := by simpa using h0
              clear hsx
              go_wp2_with fail
              go_roundg g2
              case measure => omega
              case rel => exact ⟨j + 1, by omega, by go_num, HBY.out.alloc HBY.out.size _⟩
  · go_enter Try.func8, Try.ntmps8
    have h1 : 4000 < n := by omega
    clear hn5
    go_wp2_with fail
    refine (HAW.out w).mono ?_
    rintro e w1 ⟨rfl, hb1⟩
    go_wp2_with fail
    go_ret
    exact ⟨rfl, hb1⟩

attribute [local go_sem] Oper.semAt_some

theorem ti.recs_drop (l : List (Nat × Bat)) (k : Nat) (y : Nat × Bat) (hy : l[k]? = some y) : ti.recs (l.drop k) = y.2.recs ++ ti.recs (l.drop (k + 1)) := by
  obtain ⟨hk, e⟩ := List.getElem?_eq_some_iff.1 hy
  rw [List.drop_eq_getElem_cons hk, e]
  unfold ti.recs
  simp
theorem ti.hit_drop {t : Int} (rs R : List Rec) (j : Nat) (x : Rec) (hx : rs[j]? = some x) : ti.res ((rs.drop j ++ R).find? (ti.hit0 t)) = if t ≤ x.time then (x.off, true) else ti.res ((rs.drop (j + 1) ++ R).find? (ti.hit0 t)) := by
  obtain ⟨hk, e⟩ := List.getElem?_eq_some_iff.1 hx
  rw [List.drop_eq_getElem_cons hk, e, List.cons_append, List.find?_cons]
  unfold ti.hit0
  by_cases h : t ≤ x.time
  · rw [if_pos h, decide_eq_true h]; rfl
  · rw [if_neg h, decide_eq_false h]

set_option maxRecDepth 100000 in
set_option maxHeartbeats 4000000 in
theorem ti.lawFinds (A : Option Addr) (n c : Nat) (z : List Int) (every other t : Int) (w : World) (hm : z.length = n ∧ n ≤ c ∧ c ≤ maxLen) (hat0 : At w A n (fun j => .int .u8 (z.getD j 0))) (hz : ∀ x ∈ z, (Lit.int .u8 x).wf = true) :
    Calls Try.prog 6 #[.slice A n c, .int .i64 every, .int .i64 other, .int .i64 t] w fun e w' => e = .returned (.bool true) ∧ Below w.heap.size w w' := by
  obtain ⟨hzn, hnc, hcm⟩ := hm
  obtain ⟨hat, hby0⟩ := ints_bytes hat0 hzn hz
  obtain ⟨L, hL⟩ : ∃ L, L = z.map Int.toNat := ⟨_, rfl⟩
  have hln : L.length = n := by rw [hL, List.length_map]; exact hzn
  rw [← hL] at hat hby0
  have hby : ∀ x ∈ L, x < 256 := by
    intro x hx
    obtain ⟨j, hj⟩ := List.mem_iff_getElem?.1 hx
    have h1 := (List.getElem?_eq_some_iff.1 hj).1
    have h2 := hby0 j (by omega)
    simpa [List.getD, hj] using h2
  clear hby0 hat0 hz hzn hL
  have HAW := Lib.hid (fun wx => ti.awake_any wx)
  by_cases hn5 : n ≤ 4000
  · have hall := fun wx (h : Below w.heap.size w wx) => ref.all_any A c n L wx hln (hat.below h (Nat.le_refl _)) hby hnc hcm (by omega)
    have hwl := dec.walk_len hby
    rw [hln] at hwl
    have hrl : ∀ x ∈ dec.walk L, x.2.recs.length ≤ 100 := fun x hx => by
      obtain ⟨u, his⟩ := dec.walk_is hby x hx
      exact (Bat.check_ok his.check).2.1
    obtain ⟨⟨F1, F2⟩, hF⟩ : ∃ y, y = ti.res ((ti.recs (dec.walk L)).find? (ti.hit0 t)) := ⟨_, rfl⟩
    have hb : ∀ ev : Int, ∃ (N : Nat) (T : World → Option Addr → Prop), (∀ wx, Below w.heap.size w wx → Calls Try.prog 25 #[.slice A n c, .int .i64 ev] wx fun e w' => ∃ A1 c1, e = .returned (.slice A1 N c1) ∧ T w' A1 ∧ Below wx.heap.size wx w') ∧
        (∀ wx A1 c1, Below w.heap.size w wx → T wx A1 → Calls Try.prog 24 #[.slice A n c, .slice A1 N c1, .int .i64 t] wx fun e w' => e = .returned (.tuple #[.int .i64 F1, .bool F2]) ∧ Below wx.heap.size wx w') := fun ev => by
      refine ⟨(ti.st (max ev 1) (dec.walk L)).2.2.length, fun wx A1 => At wx A1 ((ti.st (max ev 1) (dec.walk L)).2.2.length * 2) (fun j => (ti.row (ti.st (max ev 1) (dec.walk L)).2.2).getD j undef), fun wx hwx => ?_, fun wx A1 c1 hwx hT => ?_⟩
      · refine (ti.build_any A n c L ev wx hby hln hnc hcm (by omega) (hat.below hwx (Nat.le_refl _))).mono ?_
        rintro e w' ⟨A1, c1, h1, -, h2, h3⟩
        exact ⟨A1, c1, h1, h2, h3⟩
      · have hEl := ti.st_len (max ev 1) (dec.walk L)
        have h := ti.find_any A n c L A1 _ c1 _ t wx hby hln hnc hcm (by omega) (by omega) (hat.below hwx (Nat.le_refl _)) (ti.at2 hT)
        rw [ti.finds hby, ← hF] at h
        exact h
    obtain ⟨N1, T1, hb1, hs1⟩ := hb every
    obtain ⟨N2, T2, hb2, hs2⟩ := hb other
    clear hb
    unfold wa.Post at hall
    obtain ⟨l, hl⟩ : ∃ l, l = dec.walk L := ⟨_, rfl⟩
    rw [← hl] at hwl hall hF hrl
    obtain ⟨N, hN⟩ : ∃ N, N = l.length := ⟨_, rfl⟩
    rw [← hN] at hall hwl
    have HB1 := Lib.hid hb1; clear hb1
    have HB2 := Lib.hid hb2; clear hb2
    have HS1 := Lib.hid hs1; clear hs1
    have HS2 := Lib.hid hs2; clear hs2
    have HALL := Lib.hid hall; clear hall
    have HF := Lib.hid hF; clear hF
    have HRL := Lib.hid hrl; clear hrl
    have HN := Lib.hid hN; clear hN hl
    clear hat hby hln
    go_enter Try.func6, Try.ntmps6
    go_wp2_with fail
    refine (HB1.out w (Below.refl _ _)).mono ?_
    rintro e w1 ⟨A1, c1, rfl, hT1, hw1⟩
    have HW1 := Lib.hid hw1; clear hw1 HB1
    have HT1 := Lib.hid hT1; clear hT1
    go_wp2_with fail
    refine (HS1.out w1 A1 c1 HW1.out HT1.out).mono ?_
    rintro e w2 ⟨rfl, hw2⟩
    have HW2 := Lib.hid (HW1.out.trans (hw2.mono HW1.out.size)); clear hw2 HW1 HS1 HT1
    go_wp2_with fail
    refine (HB2.out w2 HW2.out).mono ?_
    rintro e w3 ⟨A2, c2, rfl, hT2, hw3⟩
    have HW3 := Lib.hid (HW2.out.trans (hw3.mono HW2.out.size)); clear hw3 HW2 HB2
    have HT2 := Lib.hid hT2; clear hT2
    go_wp2_with fail
    refine (HS2.out w3 A2 c2 HW3.out HT2.out).mono ?_
    rintro e w4 ⟨rfl, hw4⟩
    have HW4 := Lib.hid (HW3.out.trans (hw4.mono HW3.out.size)); clear hw4 HW3 HS2 HT2
    go_wp2_with fail
    refine (HALL.out w4 HW4.out).mono ?_
    rintro e w6 ⟨A3, c3, rfl, hc3, hats, hw6⟩
    have HW6 := Lib.hid (HW4.out.trans (hw6.mono HW4.out.size)); clear hw6 HW4 HALL
    have HATS := Lib.hid hats; clear hats
    go_wp2_with fail
    go_loopg [14, 15, 16] N (fun g s14 s15 s16 wx => ∃ (k : Nat) (p : Int) (mt : Bool), k + g = N ∧ s14 = .int .i64 p ∧ s15 = .bool mt ∧ s16 = .int .i64 (k : Int) ∧ (if mt then (p, true) else ti.res ((ti.recs (l.drop k)).find? (ti.hit0 t))) = (F1, F2) ∧ (mt = false → p = 0) ∧ Below w6.heap.size w6 wx)
    case atStart => exact ⟨0, 0, false, by omega, rfl, rfl, rfl, by rw [HF.out]; rfl, fun _ => rfl, Below.refl _ _⟩
    case round =>
      obtain ⟨k, p, mt, hkg, rfl, rfl, rfl, hfd, hp0, hbr⟩ := hrel
      have HBR := Lib.hid hbr; clear hbr
      have HEND := Lib.hid (fun (V : World) (h : Below wr.heap.size wr V) => (HW6.out.trans (HBR.out.mono HW6.out.size)).trans (h.mono (HW6.out.trans (HBR.out.mono HW6.out.size)).size))
      by_cases hmt : mt = true
      · subst hmt
        obtain ⟨rfl, rfl⟩ : p = F1 ∧ true = F2 := by simpa using hfd
        clear hfd hp0
        by_cases hk : k < N
        all_goals
          go_wp2_with fail
          (try go_quiet (fail))
          go_wp2_with fail
          refine (HAW.out _).mono ?_
          rintro e w7 ⟨rfl, hb7⟩
          have HB7 := Lib.hid (HEND.out _ hb7); clear hb7
          go_wp2_with fail
          (try rw [Exit.noGoto_ret])
          go_ret
          exact ⟨rfl, HB7.out⟩
      · obtain rfl : mt = false := by simpa using hmt
        clear hmt
        obtain rfl : p = 0 := hp0 rfl
        clear hp0
        rw [if_neg (by simp)] at hfd
        cases gk with
        | zero =>
          obtain rfl : k = N := by omega
          rw [List.drop_of_length_le (by rw [← HN.out]; exact Nat.le_refl _)] at hfd
          obtain ⟨rfl, rfl⟩ : (0 : Int) = F1 ∧ false = F2 := by simpa [ti.recs, ti.res] using hfd
          clear hfd
          go_wp2_with fail
          (try go_quiet (fail))
          go_wp2_with fail
          refine (HAW.out _).mono ?_
          rintro e w7 ⟨rfl, hb7⟩
          have HB7 := Lib.hid (HEND.out _ hb7); clear hb7
          go_wp2_with fail
          (try rw [Exit.noGoto_ret])
          go_ret
          exact ⟨rfl, HB7.out⟩
        | succ g =>
          have hkN : k < N := by omega
          obtain ⟨y, hy⟩ : ∃ y, l[k]? = some y := ⟨_, List.getElem?_eq_getElem (by rw [← HN.out]; exact hkN)⟩
          rw [ti.recs_drop l k y hy] at hfd
          have hrly := HRL.out y (List.mem_of_getElem? hy)
          obtain ⟨at', b⟩ := y
          dsimp only at hrly
          obtain ⟨b2, o2, v2, hA2, hb2l, -, -, -, -, -, -, d6, hrec⟩ := (HATS.out.below HBR.out (Nat.le_refl _)).get hy
          subst hA2
          dsimp only at d6 hfd hrec
          obtain ⟨A4, c4, V4, rfl, -⟩ := id hrec
          have HREC := Lib.hid hrec; clear hrec
          obtain ⟨R, hR⟩ : ∃ R, R = ti.recs (l.drop (k + 1)) := ⟨_, rfl⟩
          rw [← hR] at hfd
          have HR := Lib.hid hR; clear hR
          have HFD := Lib.hid hfd; clear hfd hy HEND
          obtain ⟨M, hM⟩ : ∃ M, M = b.recs.length := ⟨_, rfl⟩
          rw [← hM] at d6 hrly
          have HM := Lib.hid hM; clear hM
          have HD6 := Lib.hid d6; clear d6
          go_wp2_with fail
          go_loopg [14, 15, 17] M (fun g s14 s15 s17 wy => ∃ (j : Nat) (p : Int) (mt : Bool), j + g = M ∧ s14 = .int .i64 p ∧ s15 = .bool mt ∧ s17 = .int .i64 (j : Int) ∧ (if mt then (p, true) else ti.res ((b.recs.drop j ++ R).find? (ti.hit0 t))) = (F1, F2) ∧ (mt = false → p = 0) ∧ Below wr.heap.size wr wy)
          case atStart => exact ⟨0, 0, false, by omega, rfl, rfl, rfl, by rw [if_neg (by simp)]; exact HFD.out, fun _ => rfl, Below.refl _ _⟩
          case round =>
            obtain ⟨j, p, mt, hjg, rfl, rfl, rfl, hfd, hp0, hby⟩ := hrel
            have HBY := Lib.hid hby; clear hby HFD
            have e6 := HBY.out.cell (p := ⟨b2, o2 + k * 7 + 6, none⟩) hb2l
            rw [HD6.out] at e6
            by_cases hmt : mt = true
            · subst hmt
              have HFD := Lib.hid hfd; clear hfd hp0
              by_cases hj : j < M
              all_goals
                go_wp2_with fail
                go_roundg g
                case measure => omega
                case rel => exact ⟨k + 1, p, true, by omega, rfl, rfl, by go_num, HFD.out, fun h => (by cases h), HBR.out.trans (HBY.out.mono HBR.out.size)⟩
            · obtain rfl : mt = false := by simpa using hmt
              clear hmt
              obtain rfl : p = 0 := hp0 rfl
              clear hp0
              rw [if_neg (by simp)] at hfd
              cases gk with
              | zero =>
                obtain rfl : j = M := by omega
                rw [List.drop_of_length_le (by rw [← HM.out]; exact Nat.le_refl _), List.nil_append, HR.out] at hfd
                have HFD := Lib.hid hfd; clear hfd
                go_wp2_with fail
                go_roundg g
                case measure => omega
                case rel => exact ⟨k + 1, 0, false, by omega, rfl, rfl, by go_num, by rw [if_neg (by simp)]; exact HFD.out, fun _ => rfl, HBR.out.trans (HBY.out.mono HBR.out.size)⟩
              | succ g2 =>
                have hjM : j < M := by omega
                obtain ⟨x, hx⟩ : ∃ x, b.recs[j]? = some x := ⟨_, List.getElem?_eq_getElem (by rw [← HM.out]; exact hjM)⟩
                rw [ti.hit_drop b.recs R j x hx] at hfd
                obtain ⟨p, off, c', kv, vv, hA, -, -, hp, q0, q1, -⟩ := (HREC.out.below HBY.out (Nat.le_refl _)).at' hx
                obtain ⟨rfl, rfl⟩ : A4 = some ⟨p, off, none⟩ ∧ c4 = c' := by simpa using hA
                clear hx hA
                by_cases h0 : t ≤ x.time
                · rw [if_pos h0] at hfd
                  have HFD := Lib.hid hfd; clear hfd
                  go_wp2_with fail
                  go_roundg g2
                  case measure => omega
                  case rel => exact ⟨j + 1, x.off, true, by omega, rfl, rfl, by go_num, by rw [if_pos rfl]; exact HFD.out, fun h => (by cases h), HBY.out⟩
                · rw [if_neg h0] at hfd
                  have HFD := Lib.hid hfd; clear hfd
                  go_wp2_with fail
                  go_roundg g2
                  case measure => omega
                  case rel => exact ⟨j + 1, 0, false, by omega, rfl, rfl, by go_num, by rw [if_neg (by simp)]; exact HFD.out, fun _ => rfl, HBY.out⟩
  · go_enter Try.func6, Try.ntmps6
    have h1 : 4000 < n := by omega
    clear hn5
    go_wp2_with fail
    refine (HAW.out w).mono ?_
    rintro e w1 ⟨rfl, hb1⟩
    go_wp2_with fail
    go_ret
    exact ⟨rfl, hb1⟩

attribute [local go_sem] Oper.semAt_some

set_option maxRecDepth 100000 in
set_option maxHeartbeats 4000000 in
theorem ti.lawBack (A : Option Addr) (n c : Nat) (z : List Int) (every : Int) (w : World) (hm : z.length = n ∧ n ≤ c ∧ c ≤ maxLen) (hat0 : At w A n (fun j => .int .u8 (z.getD j 0))) (hz : ∀ x ∈ z, (Lit.int .u8 x).wf = true) :
    Calls Try.prog 7 #[.slice A n c, .int .i64 every] w fun e w' => e = .returned (.bool true) ∧ Below w.heap.size w w' := by
  obtain ⟨hzn, hnc, hcm⟩ := hm
  obtain ⟨hat, hby0⟩ := ints_bytes hat0 hzn hz
  obtain ⟨L, hL⟩ : ∃ L, L = z.map Int.toNat := ⟨_, rfl⟩
  have hln : L.length = n := by rw [hL, List.length_map]; exact hzn
  rw [← hL] at hat hby0
  have hby : ∀ x ∈ L, x < 256 := by
    intro x hx
    obtain ⟨j, hj⟩ := List.mem_iff_getElem?.1 hx
    have h1 := (List.getElem?_eq_some_iff.1 hj).1
    have h2 := hby0 j (by omega)
    simpa [List.getD, hj] using h2
  clear hby0 hat0 hz hzn hL
  have HAW := Lib.hid (fun wx => ti.awake_any wx)
  by_cases hn5 : n ≤ 4000
  · have hbld := ti.build_any A n c L every w hby hln hnc hcm (by omega) hat
    have hwl := dec.walk_len hby
    rw [hln] at hwl
    unfold ti.Post at hbld
    have hEl := ti.st_len (max every 1) (dec.walk L)
    have hinv := ti.inv_walk hby (max every 1)
    have hwok := ti.walk_ok hby
    obtain ⟨S, hS⟩ : ∃ S, S = ti.st (max every 1) (dec.walk L) := ⟨_, rfl⟩
    rw [← hS] at hbld hEl hinv
    clear hS
    obtain ⟨mo, m0⟩ := hinv.most
    obtain ⟨s1, s2, E⟩ := S
    dsimp only at hbld hEl hinv mo m0
    have hents : ∀ e ∈ E, 0 ≤ e.1 ∧ e.1 ≤ 1125899906842624 ∧ 0 ≤ e.2 ∧ e.2 ≤ 4611686018427387904 := fun e he => by
      obtain ⟨h1, h2, ⟨y, hy, hye⟩, -⟩ := hinv.ents e he
      dsimp only at h2
      have := (hwok y hy).1
      have := (hwok y hy).2.1
      have := (hwok y hy).2.2.1
      exact ⟨h1, by omega, by omega, by omega⟩
    have hasc : ∀ (i j : Nat) (a b : Int × Int), i < j → E[i]? = some a → E[j]? = some b → a.1 ≤ b.1 ∧ a.2 < b.2 := fun i j a b hij ha hb => by
      obtain ⟨h1, rfl⟩ := List.getElem?_eq_some_iff.1 ha
      obtain ⟨h2, rfl⟩ := List.getElem?_eq_some_iff.1 hb
      exact List.pairwise_iff_getElem.1 hinv.asc i j h1 h2 hij
    have hf : ∀ i j, i < E.length → j < 2 → -9223372036854775808 ≤ ti.num E i j ∧ ti.num E i j ≤ 9223372036854775807 := fun i j hi hj => by
      obtain ⟨e, he⟩ : ∃ e, E[i]? = some e := ⟨_, List.getElem?_eq_getElem hi⟩
      obtain ⟨h1, h2⟩ := ti.num_at he
      have h3 := hents e (List.mem_of_getElem? he)
      match j, hj with
      | 0, _ => omega
      | 1, _ => omega
    have hok : ∀ j, j < E.length → ¬ ti.bad (ti.num E) j := fun j hj hb => by
      obtain ⟨e, he⟩ : ∃ e, E[j]? = some e := ⟨_, List.getElem?_eq_getElem hj⟩
      obtain ⟨h1, h2⟩ := ti.num_at he
      have h3 := hents e (List.mem_of_getElem? he)
      unfold ti.bad at hb
      cases j with
      | zero =>
        rw [show ti.pre (ti.num E) 0 0 = 0 from rfl, show ti.pre (ti.num E) 0 1 = -1 from rfl] at hb
        omega
      | succ j =>
        obtain ⟨d, hd⟩ : ∃ d, E[j]? = some d := ⟨_, List.getElem?_eq_getElem (by omega)⟩
        obtain ⟨g1, g2⟩ := ti.num_at hd
        have h4 := hasc j (j + 1) d e (by omega) hd he
        rw [show ti.pre (ti.num E) (j + 1) 0 = ti.num E j 0 from rfl, show ti.pre (ti.num E) (j + 1) 1 = ti.num E j 1 from rfl] at hb
        omega
    have hge : ∀ i, i < E.length → ∃ e, E[i]? = some e ∧ ti.num E i 0 = e.1 ∧ ti.num E i 1 = e.2 := fun i hi => by
      obtain ⟨e, he⟩ : ∃ e, E[i]? = some e := ⟨_, List.getElem?_eq_getElem hi⟩
      exact ⟨e, he, ti.num_at he⟩
    have HAT2 := Lib.hid (fun wx A1 (h : At wx A1 (E.length * 2) (fun j => (ti.row E).getD j undef)) => ti.at2 h)
    obtain ⟨F, hF⟩ : ∃ F, F = ti.num E := ⟨_, rfl⟩
    rw [← hF] at hf hok HAT2 hge
    obtain ⟨N, hN⟩ : ∃ N, N = E.length := ⟨_, rfl⟩
    rw [← hN] at hbld hEl hf hok HAT2 hge
    have HB := Lib.hid hbld; clear hbld
    have HF := Lib.hid hf; clear hf
    have HOK := Lib.hid hok; clear hok
    have HASC := Lib.hid hasc; clear hasc
    have HGE := Lib.hid hge; clear hge
    clear hinv hwok hents hF hN mo m0
    clear hat hby hln
    have hN80 : N ≤ 80 := by omega
    clear hEl hwl
    go_enter Try.func7, Try.ntmps7
    go_wp2_with fail
    refine HB.out.mono ?_
    rintro e w1 ⟨A1, c1, rfl, -, hT, hw1⟩
    have HT := Lib.hid (HAT2.out w1 A1 hT); clear hT HAT2
    have HW1 := Lib.hid hw1; clear hw1 HB
    go_wp2_with fail
    refine (ti.encode_any A1 N c1 F w1 (by omega) HT.out HF.out).mono ?_
    rintro e w2 ⟨h2, hb2⟩
    have H2 := Lib.hid (HT.out.below hb2 (Nat.le_refl _)); clear HT
    have HB2 := Lib.hid (HW1.out.trans (hb2.mono HW1.out.size)); clear HW1 hb2
    rcases h2 with ⟨-, v2, rfl, hown⟩ | ⟨⟨k, hk, hbad, -⟩, -⟩
    case inr => exact absurd hbad (HOK.out k hk)
    obtain ⟨A2, c2, rfl, hc2, hl2, hat2⟩ := own_bytes hown
    have hcm2 := own_cap hown
    clear hown hl2
    rw [oi.enc_len] at hat2 hc2 ⊢
    have HAT2 := Lib.hid hat2; clear hat2
    go_wp2_with fail
    have hd := ti.decode_any A2 (16 * N) c2 N F [] w2 (by omega) (by simp) (by simp) HF.out HOK.out (by rw [List.append_nil]; exact oi.enc_len F N) (by rw [List.append_nil]; exact HAT2.out) ⟨hc2, hcm2⟩
    refine hd.mono ?_
    clear hd
    rintro e w3 ⟨h3, hb3⟩
    rcases h3 with ⟨-, v3, rfl, hown3⟩ | ⟨h3, -⟩
    case inr => exact absurd rfl h3
    obtain ⟨A3, c3, rfl, -, hat3⟩ := own_at2 hown3
    clear hown3
    have HAT3 := Lib.hid hat3; clear hat3 HAT2
    have HB3 := Lib.hid (HB2.out.trans (hb3.mono HB2.out.size)); clear HB2
    have H3 := Lib.hid (H2.out.below hb3 (Nat.le_refl _)); clear H2 hb3
    go_wp2_with fail
    go_loopg [10] N (fun g s10 wx => ∃ k : Nat, k + g = N ∧ s10 = .int .i64 (k : Int) ∧ Below w3.heap.size w3 wx)
    case atStart => exact ⟨0, by omega, rfl, Below.refl _ _⟩
    case round =>
      obtain ⟨k, hkg, rfl, hbr⟩ := hrel
      have HBR := Lib.hid hbr; clear hbr
      cases gk with
      | zero =>
        obtain rfl : k = N := by omega
        have HEND := Lib.hid (fun (V : World) (h : Below wr.heap.size wr V) => (HB3.out.trans (HBR.out.mono HB3.out.size)).trans (h.mono (HB3.out.trans (HBR.out.mono HB3.out.size)).size))
        go_wp2_with fail
        refine (HAW.out _).mono ?_
        rintro e w7 ⟨rfl, hb7⟩
        have HB7 := Lib.hid (HEND.out _ hb7); clear hb7
        go_wp2_with fail
        (try rw [Exit.noGoto_ret])
        go_ret
        exact ⟨rfl, HB7.out⟩
      | succ g =>
        have hkN : k < N := by omega
        obtain ⟨b1, o1, hA1, hbl1, p0, p1⟩ := (H3.out.below HBR.out (Nat.le_refl _)).get k hkN
        obtain ⟨b2, o2, hA2, hbl2, q0, q1⟩ := (HAT3.out.below HBR.out (Nat.le_refl _)).get k hkN
        obtain ⟨e, he, e0, e1⟩ := HGE.out k hkN
        rw [e0] at p0 q0
        rw [e1] at p1 q1
        clear e0 e1
        have HBR2 := Lib.hid (fun q => bdrew HBR.out q)
        cases k with
        | zero =>
          subst hA1
          subst hA2
          clear hbl1 hbl2
          rw [Nat.zero_mul, Nat.add_zero] at p0 p1 q0 q1
          have hN0 : 0 < N := hkN
          have hN1 : (0 : Int) < (N : Int) := by omega
          go_wp2_with fail
          go_quiet (fail)
          go_wp2_with fail
          go_roundg g
          case measure => omega
          case rel => exact ⟨0 + 1, by omega, by go_num, HBR2.out _⟩
        | succ k =>
          obtain ⟨d, hd, d0, d1⟩ := HGE.out k (by omega)
          obtain ⟨b3, o3, hA3, hbl3, r0, r1⟩ := (H3.out.below HBR.out (Nat.le_refl _)).get k (by omega)
          rw [d0] at r0
          rw [d1] at r1
          clear d0 d1
          subst hA1
          subst hA2
          obtain ⟨rfl, rfl⟩ : b1 = b3 ∧ o1 = o3 := by simpa using hA3
          obtain ⟨as1, as2⟩ := HASC.out k (k + 1) d e (by omega) hd he
          clear hA3 hd he hbl1 hbl2 hbl3
          generalize hK : k + 1 = K at *
          have hk0 : (0 : Int) < (K : Int) := by omega
          have hkb : (K : Int) < (N : Int) := by omega
          have hkb2 : (k : Int) < (N : Int) := by omega
          have hk2 : k < N := by omega
          have hw1 : IntKind.i64.wrap ((K : Int) - 1) = (k : Int) := by rw [IntWalk.i64_in _ (by omega)]; omega
          have hkn : 0 < K := by omega
          have hkd : decide (0 < K) = true := by simpa using hkn
          have HK := Lib.hid hK; clear hK
          go_wp2_with fail
          go_quiet (fail)
          go_wp2_with fail
          go_roundg g
          case measure => omega
          case rel => exact ⟨K + 1, by omega, by go_num, HBR2.out _⟩
  · go_enter Try.func7, Try.ntmps7
    have h1 : 4000 < n := by omega
    clear hn5
    go_wp2_with fail
    refine (HAW.out w).mono ?_
    rintro e w1 ⟨rfl, hb1⟩
    go_wp2_with fail
    go_ret
    exact ⟨rfl, hb1⟩
end Go.Proofs.Ytchdolcnhopmjaa

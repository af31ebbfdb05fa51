/- The reference's Crash: round, what it leaves, its rows grown, and its walk. -/
import Derived.Test.YthffkbcjidbdaaaRfX
import Derived.Test.YthffkbcjidbdaaaDkL
import Derived.Test.YthffkbcjidbdaaaEch
namespace Go.Proofs.Ythffkbcjidbdaaa
section
open Go.RowKit Go.Maps
set_option maxRecDepth 100000

/-- A pick takes one. -/
theorem dk.pick_rest (ps : List Int) (k : Nat) (m : Int) : (dk.pick (ps.drop k) m).2 = ps.drop (k + 1) := by
  by_cases h : k < ps.length
  · rw [List.drop_eq_getElem_cons h]
    rfl
  · rw [List.drop_eq_nil_of_le (by omega), List.drop_eq_nil_of_le (by omega)]
    rfl
set_option maxHeartbeats 2000000 in
theorem rf.round_any (A : Option Addr) (n c k : Nat) (ps : List Int) (m : Int) (w : World) (h : dk.Picks w A n c ps) (hk : k ≤ 1000000) (hm : 0 ≤ m ∧ m ≤ 4611686018427387904) :
    Calls Try.prog 52 #[.slice A n c, .int .i64 (k : Int), .int .i64 (m + 1)] w fun e w' => e = .returned (.int .i64 (dk.pick (ps.drop k) m).1) ∧ w = w' := by
  obtain ⟨hat, hl, hnc, hc, hx⟩ := h
  go_enter Try.func52, Try.ntmps52
  by_cases hkn : k < n
  · have hkl : k < ps.length := by omega
    obtain ⟨b, o, rfl, hb, hcel⟩ := hat (by omega)
    have hgd : ps.getD k 0 = ps[k] := by rw [List.getD_eq_getElem?_getD, List.getElem?_eq_getElem hkl]; rfl
    have hdr : ps.drop k = ps[k] :: ps.drop (k + 1) := List.drop_eq_getElem_cons hkl
    have e0 : w.cell? ⟨b, o + k, none⟩ = some (.int .i64 (ps.getD k 0)) := hcel k hkn
    have hx0 := hx _ (List.getElem_mem hkl)
    rw [← hgd] at hx0 hdr
    obtain ⟨x, hxx⟩ : ∃ x, x = ps.getD k 0 := ⟨_, rfl⟩
    rw [← hxx] at e0 hx0 hdr
    have h1 := Int.tmod_lt_of_pos x (show 0 < m + 1 by omega)
    have h2 : -(m + 1) < x.tmod (m + 1) := Int.lt_tmod_of_pos x (by omega)
    have hne : ¬ (m + 1 = 0) := by omega
    have g0 : ¬ ((n : Int) ≤ (k : Int)) := by omega
    have gk : (k : Int) < (n : Int) := by omega
    by_cases hr : x.tmod (m + 1) < 0
    · have hd : decide (x.tmod (m + 1) < 0) = true := decide_eq_true hr
      have hp : (dk.pick (ps.drop k) m).1 = x.tmod (m + 1) + (m + 1) := by rw [hdr]; unfold dk.pick; dsimp only; rw [if_pos hr]
      have HPK := Lib.hid hp; clear hp hat hx hcel hgd hdr hxx hl
      go_wp2_with fail
      go_ret
      exact ⟨by rw [HPK.out]; rfl, rfl⟩
    · have hd : decide (x.tmod (m + 1) < 0) = false := decide_eq_false hr
      have hp : (dk.pick (ps.drop k) m).1 = x.tmod (m + 1) := by rw [hdr]; unfold dk.pick; dsimp only; rw [if_neg hr]
      have HPK := Lib.hid hp; clear hp hat hx hcel hgd hdr hxx hl
      go_wp2_with fail
      go_ret
      exact ⟨by rw [HPK.out]; rfl, rfl⟩
  · have hp : (dk.pick (ps.drop k) m).1 = 0 := by rw [List.drop_eq_nil_of_le (by omega)]; rfl
    have g0 : (n : Int) ≤ (k : Int) := by omega
    have HPK := Lib.hid hp; clear hp hat hx hl
    go_wp2_with fail
    go_ret
    exact ⟨by rw [HPK.out]; rfl, rfl⟩
end
section
open Go.RowKit Go.Maps
set_option maxRecDepth 100000

theorem rd.applyAll_snoc (l : RNames) (xs : List RAct) (a : RAct) : rd.applyAll l (xs ++ [a]) = rd.apply (rd.applyAll l xs) a := by unfold rd.applyAll; simp
theorem rd.applyAll_len (l : RNames) (xs : List RAct) : (rd.applyAll l xs).length ≤ l.length + xs.length := by
  induction xs generalizing l with
  | nil => exact Nat.le_refl _
  | cons a xs ih =>
    have h1 := ih (rd.apply l a)
    have h2 := rd.apply_len l a
    show (rd.applyAll (rd.apply l a) xs).length ≤ _
    rw [List.length_cons]
    omega
/-- The disk that a crash has put down so far. -/
def RDisk.part (M : RDisk) (x : RLeft) : RDisk := ⟨M.room, x.files, x.names, [], [], -1, false, 0⟩
theorem dk.keepOf_drop (v : FileV) (ps : List Int) (k : Nat) : dk.keepOf v (ps.drop k) = if 0 < (v.data.length : Int) - (v.safe : Int) then ((v.safe : Int) + (dk.pick (ps.drop k) ((v.data.length : Int) - (v.safe : Int))).1, ps.drop (k + 1)) else ((v.safe : Int), ps.drop k) := by
  unfold dk.keepOf
  rw [dk.pick_rest]
theorem rd.crashAll_take {M : RDisk} {l : RNames} {r : List Int} {j : Nat} {y : ByteArray × Nat} (h : l[j]? = some y) : rd.crashAll M (l.take (j + 1)) r = rd.crashStep M (rd.crashAll M (l.take j) r) y := by
  obtain ⟨h1, h2⟩ := List.getElem?_eq_some_iff.1 h
  rw [List.take_succ_eq_append_getElem h1, rd.crashAll_snoc, h2]
theorem rd.crashAll_len (M : RDisk) (l : RNames) (r : List Int) : (rd.crashAll M l r).files.length = l.length ∧ (rd.crashAll M l r).names.length = l.length := by
  have key : ∀ (l : RNames) (x : RLeft), (l.foldl (rd.crashStep M) x).files.length = x.files.length + l.length ∧ (l.foldl (rd.crashStep M) x).names.length = x.names.length + l.length := by
    intro l
    induction l with
    | nil => intro x; exact ⟨rfl, rfl⟩
    | cons y l ih =>
      intro x
      obtain ⟨h1, h2⟩ := ih (rd.crashStep M x y)
      refine ⟨h1.trans ?_, h2.trans ?_⟩
      · show (x.files ++ [_]).length + _ = _
        rw [List.length_append, List.length_singleton, List.length_cons]
        omega
      · show (x.names ++ [_]).length + _ = _
        rw [List.length_append, List.length_singleton, List.length_cons]
        omega
  have := key l ⟨[], [], r⟩
  exact ⟨this.1.trans (Nat.zero_add _), this.2.trans (Nat.zero_add _)⟩
theorem RDisk.part_crash (M : RDisk) (ps : List Int) : { M.part (rd.crashAll M (M.keptN ps) (M.restP ps)) with safe := (rd.crashAll M (M.keptN ps) (M.restP ps)).names } = M.crash ps := rfl
/-- What a file keeps lies between what is safe and all of it. -/
theorem dk.keepOf_bd {v : FileV} (hv : v.safe ≤ v.data.length) (ps : List Int) : (v.safe : Int) ≤ (dk.keepOf v ps).1 ∧ (dk.keepOf v ps).1 ≤ (v.data.length : Int) := by
  unfold dk.keepOf
  split
  · have := dk.pick_le (L := ps) (most := (v.data.length : Int) - (v.safe : Int)) (by omega)
    dsimp only
    omega
  · dsimp only
    omega
/-- A file's cells. -/
theorem RefAt.file_at {w : World} {q : Nat} {M : RDisk} {G : Nat → Prop} {fs : List RFil} {fv nv sv av : Value} (h : RefAt w q M G fs fv nv sv av) {f : Nat} (hf : f < M.files.length) :
    ∃ (y : RFil) (gf cf : Nat), fv = .slice (some ⟨gf, 0, none⟩) fs.length cf ∧ fs[f]? = some y ∧ y.v = M.file f ∧ gf < w.heap.size ∧
      w.cell? ⟨gf, f * 2, none⟩ = some y.val ∧ w.cell? ⟨gf, f * 2 + 1, none⟩ = some (.int .i64 (y.v.safe : Int)) ∧ w.ownsRow 0 5 1 y.val y.v.data.length (u8s y.v.data) ∧ f < fs.length := by
  have hfl : fs.length = M.files.length := by rw [← h.files, List.length_map]
  obtain ⟨y, hy⟩ : ∃ y, fs[f]? = some y := ⟨_, List.getElem?_eq_getElem (by omega)⟩
  have hyv : y.v = M.file f := by
    unfold RDisk.file
    rw [← h.files, List.getD_eq_getElem?_getD, List.getElem?_map, hy]
    rfl
  obtain ⟨gf, cf, e2, -, -, -, hgf, hat2⟩ := own_pos4 h.frow (by omega)
  obtain ⟨f0, f1⟩ := rf.frow_at hy
  have key : ∀ (g n : Nat) (V : Nat → Value), At w (some ⟨g, 0, none⟩) n V → ∀ i, i < n → w.cell? ⟨g, i, none⟩ = some (V i) := fun g n V hat i hi => by
    obtain ⟨b, o, e, hb, hc⟩ := hat (by omega)
    obtain ⟨rfl, rfl⟩ : g = b ∧ 0 = o := by simpa using e
    have := hc i hi
    rwa [Nat.zero_add] at this
  refine ⟨y, gf, cf, e2, hy, hyv, hgf, ?_, ?_, h.bytes y (List.mem_of_getElem? hy), by omega⟩
  · rw [key gf _ _ hat2 _ (by omega)]; exact congrArg some f0
  · rw [key gf _ _ hat2 _ (by omega)]; exact congrArg some f1
end
section
open Go.RowKit Go.Maps
set_option maxRecDepth 100000

theorem RefAt.push_file {w w7 : World} {z : Nat} {Mx : RDisk} {G : Nat → Prop} {fs : List RFil} {fv nv : Value} (h : RefAt w z Mx G fs fv nv (.slice none 0 0) (.slice none 0 0)) (hs0 : Mx.safe = []) (ha0 : Mx.acts = []) {v7 : Value} {x : RFil}
    (hc : Chg w w7 (fun k => fv.ownBlock = some k)) (hown : w7.ownsRow 0 89 2 v7 (fs.length + 1) (rf.frow fs ++ rf.fcells x)) (hv7 : ∀ k, v7.ownBlock = some k → G k ∨ w.heap.size ≤ k)
    (hx : w7.ownsRow 0 5 1 x.val x.v.data.length (u8s x.v.data)) (hxb : ∀ k, x.val.ownBlock = some k → G k ∨ w.heap.size ≤ k) :
    RefAt (w7.setCell ⟨z, 1, none⟩ v7) z { Mx with files := Mx.files ++ [x.v] } (dk.grow G w (w7.setCell ⟨z, 1, none⟩ v7)) (fs ++ [x]) v7 nv (.slice none 0 0) (.slice none 0 0) ∧ Chg w (w7.setCell ⟨z, 1, none⟩ v7) (fun k => fv.ownBlock = some k ∨ k = z) := by
  obtain ⟨f1, f2, f3, f4, f5, f6⟩ := h.foot
  have hbz := hc.blk h.blk (h.blk.not_row (by decide) h.frow)
  have hset := hbz.set 1 v7
  have hc8 : Chg w7 (w7.setCell ⟨z, 1, none⟩ v7) (fun k => k = z) := Chg.setCell _ _ _ _
  have hsz : w.heap.size ≤ (w7.setCell ⟨z, 1, none⟩ v7).heap.size := Nat.le_trans hc.size hc8.size
  have hlt8 : ∀ k, k < w7.heap.size → k < (w7.setCell ⟨z, 1, none⟩ v7).heap.size := fun k hk => Nat.lt_of_lt_of_le hk hc8.size
  have hup : ∀ k, G k → dk.grow G w (w7.setCell ⟨z, 1, none⟩ v7) k := fun k hk => ⟨.inl hk, Nat.lt_of_lt_of_le (h.lt k hk) hsz⟩
  have hfrow : rf.frow (fs ++ [x]) = rf.frow fs ++ rf.fcells x := by rw [rf.frow_append]; congr 1
  refine ⟨⟨hset, ?_, ?_, fun y hy => ?_, ?_, ?_, ?_, ⟨hup _ f1, fun k hk => ⟨hv7 k hk, hlt8 k (hown.lt k hk).2⟩, fun k hk => hup k (f3 k hk), fun k hk => (by cases hk), fun k hk => (by cases hk), fun y hy k hk => ?_⟩, fun k hk => hk.2⟩, (hc.mono fun _ _ q => .inl q).trans hc8 fun _ _ q => .inr q⟩
  · rw [hfrow, List.length_append, List.length_singleton]
    exact hc8.own hown fun k hk e => by subst e; exact hbz.not_row (by decide) hown hk
  · rw [List.map_append, h.files]
    rfl
  · rcases List.mem_append.1 hy with hy | hy
    · have h1 := hc.own (h.bytes y hy) fun k hk hk2 => rows_apart (h.bytes y hy) h.frow (by decide) hk hk2
      exact hc8.own h1 fun k hk e => by subst e; exact hbz.not_row (by decide) h1 hk
    · obtain rfl : y = x := by simpa using hy
      exact hc8.own hx fun k hk e => by subst e; exact hbz.not_row (by decide) hx hk
  · have h1 := hc.own h.nrow fun k hk hk2 => rows_apart h.nrow h.frow (by decide) hk hk2
    exact hc8.own h1 fun k hk e => by subst e; exact hbz.not_row (by decide) h1 hk
  · show World.ownsRow _ _ _ _ _ Mx.safe.length (rf.nrow Mx.safe)
    rw [hs0]
    exact World.ownsRow_nil _ _ _ _
  · show World.ownsRow _ _ _ _ _ Mx.acts.length (rf.arow Mx.acts)
    rw [ha0]
    exact World.ownsRow_nil _ _ _ _
  · rcases List.mem_append.1 hy with hy | hy
    · exact hup k (f6 y hy k hk)
    · obtain rfl : y = x := by simpa using hy
      exact ⟨hxb k hk, hlt8 k (hx.lt k hk).2⟩
theorem RefAt.push_name {w w7 : World} {z : Nat} {Mx : RDisk} {G : Nat → Prop} {fs : List RFil} {fv nv : Value} (h : RefAt w z Mx G fs fv nv (.slice none 0 0) (.slice none 0 0)) (hs0 : Mx.safe = []) (ha0 : Mx.acts = []) {v7 : Value} {x : ByteArray × Nat}
    (hc : Chg w w7 (fun k => nv.ownBlock = some k)) (hown : w7.ownsRow 0 78 2 v7 (Mx.now.length + 1) (rf.nrow Mx.now ++ rf.ncells x)) (hv7 : ∀ k, v7.ownBlock = some k → G k ∨ w.heap.size ≤ k) :
    RefAt (w7.setCell ⟨z, 2, none⟩ v7) z { Mx with now := Mx.now ++ [x] } (dk.grow G w (w7.setCell ⟨z, 2, none⟩ v7)) fs fv v7 (.slice none 0 0) (.slice none 0 0) ∧ Chg w (w7.setCell ⟨z, 2, none⟩ v7) (fun k => nv.ownBlock = some k ∨ k = z) := by
  obtain ⟨f1, f2, f3, f4, f5, f6⟩ := h.foot
  have hbz := hc.blk h.blk (h.blk.not_row (by decide) h.nrow)
  have hset := hbz.set 2 v7
  have hc8 : Chg w7 (w7.setCell ⟨z, 2, none⟩ v7) (fun k => k = z) := Chg.setCell _ _ _ _
  have hsz : w.heap.size ≤ (w7.setCell ⟨z, 2, none⟩ v7).heap.size := Nat.le_trans hc.size hc8.size
  have hup : ∀ k, G k → dk.grow G w (w7.setCell ⟨z, 2, none⟩ v7) k := fun k hk => ⟨.inl hk, Nat.lt_of_lt_of_le (h.lt k hk) hsz⟩
  have hnrow : rf.nrow (Mx.now ++ [x]) = rf.nrow Mx.now ++ rf.ncells x := by rw [rf.nrow_append]; congr 1
  refine ⟨⟨hset, ?_, h.files, fun y hy => ?_, ?_, ?_, ?_, ⟨hup _ f1, fun k hk => hup k (f2 k hk), fun k hk => ⟨hv7 k hk, Nat.lt_of_lt_of_le (hown.lt k hk).2 hc8.size⟩, fun k hk => (by cases hk), fun k hk => (by cases hk), fun y hy k hk => hup k (f6 y hy k hk)⟩, fun k hk => hk.2⟩, (hc.mono fun _ _ q => .inl q).trans hc8 fun _ _ q => .inr q⟩
  · have h1 := hc.own h.frow fun k hk hk2 => rows_apart h.frow h.nrow (by decide) hk hk2
    exact hc8.own h1 fun k hk e => by subst e; exact hbz.not_row (by decide) h1 hk
  · have h1 := hc.own (h.bytes y hy) fun k hk hk2 => rows_apart (h.bytes y hy) h.nrow (by decide) hk hk2
    exact hc8.own h1 fun k hk e => by subst e; exact hbz.not_row (by decide) h1 hk
  · show World.ownsRow _ _ _ _ _ (Mx.now ++ [x]).length (rf.nrow (Mx.now ++ [x]))
    rw [hnrow, List.length_append, List.length_singleton]
    exact hc8.own hown fun k hk e => by subst e; exact hbz.not_row (by decide) hown hk
  · show World.ownsRow _ _ _ _ _ Mx.safe.length (rf.nrow Mx.safe)
    rw [hs0]
    exact World.ownsRow_nil _ _ _ _
  · show World.ownsRow _ _ _ _ _ Mx.acts.length (rf.arow Mx.acts)
    rw [ha0]
    exact World.ownsRow_nil _ _ _ _
end
section
open Go.RowKit Go.Maps
set_option maxRecDepth 100000

set_option maxHeartbeats 8000000 in
theorem rf.Crash_any (A : Option Addr) (n c : Nat) (ps : List Int) (q : Nat) (M : RDisk) (G : Nat → Prop) (w : World) (h : RefD w q M G) (hw : M.WF) (hP : dk.Picks w A n c ps) (hls : M.safe.length ≤ 40000) (hla : M.acts.length ≤ 40000) :
    Calls Try.prog 21 #[.pointer (some ⟨q, 0, none⟩), .slice A n c] w fun e w' => ∃ z, e = .returned (.pointer (some ⟨z, 0, none⟩)) ∧ RefD w' z (M.crash ps) (dk.fresh w w') ∧ Below w.heap.size w w' := by
  obtain ⟨fs, fv, nv, sv, av, h⟩ := h
  obtain ⟨As, cs, rfl, -, hats⟩ := own_at h.srow
  obtain ⟨Aa, ca, rfl, -, hata⟩ := own_at h.arow
  have hql := h.blk.lt
  have c0 := h.blk.cell 0 (v := .int .i64 M.room) rfl
  have c3 := h.blk.cell 3 rfl
  have c4 := h.blk.cell 4 rfl
  dsimp only [rf.cells] at c3 c4
  have hnew := rf.new_at w M.room
  obtain ⟨z, hz⟩ : ∃ z, z = w.heap.size := ⟨_, rfl⟩
  obtain ⟨w1, hw1⟩ : ∃ w1, w1 = w.alloc (.cells (rf.cells (RDisk.new M.room) (.slice none 0 0) (.slice none 0 0) (.slice none 0 0) (.slice none 0 0)) 51) := ⟨_, rfl⟩
  rw [← hw1, ← hz] at hnew
  have hb1 : Below w.heap.size w w1 := by rw [hw1]; exact (Below.refl _ _).alloc (Nat.le_refl _) _
  have hpk0 := dk.pick_le (L := ps) (most := (M.acts.length : Int)) (by omega)
  obtain ⟨P, hPe⟩ : ∃ P : Nat, (dk.pick ps (M.acts.length : Int)).1 = (P : Int) := ⟨(dk.pick ps (M.acts.length : Int)).1.toNat, by omega⟩
  have hr0 : Calls Try.prog 52 #[.slice A n c, .int .i64 0, .int .i64 ((M.acts.length : Int) + 1)] w1 fun e w' => e = .returned (.int .i64 (P : Int)) ∧ w1 = w' := by
    have := rf.round_any A n c 0 ps (M.acts.length : Int) w1 (hP.chg (chg_of (P := fun _ => False) hb1) fun _ q => q.elim) (by omega) (by omega)
    rw [List.drop_zero, hPe] at this
    exact this
  have hPa : P ≤ M.acts.length := by omega
  have hkept : M.keptN ps = rd.applyAll M.safe (M.acts.take P) := by unfold RDisk.keptN; rw [hPe]; rfl
  have hrest : M.restP ps = ps.drop 1 := dk.pick_rest ps 0 (M.acts.length : Int)
  obtain ⟨na, hna⟩ : ∃ na, na = M.acts.length := ⟨_, rfl⟩
  obtain ⟨ms, hms⟩ : ∃ ms, ms = M.safe.length := ⟨_, rfl⟩
  rw [← hna] at hr0 c4
  rw [← hms] at c3
  have d3 := (hb1.cell (p := ⟨q, 3, none⟩) (by exact hql)).trans c3
  have d4 := (hb1.cell (p := ⟨q, 4, none⟩) (by exact hql)).trans c4
  have HH := Lib.hid (And.intro h (And.intro hw (And.intro hats (And.intro hata (And.intro hP (And.intro hms.symm hna.symm)))))); clear h hw hats hata hP hms hna
  have H1 := Lib.hid (And.intro hnew (And.intro hb1 (And.intro hw1 hz))); clear hnew hb1
  have HR0 := Lib.hid hr0; clear hr0
  have HK := Lib.hid (And.intro hkept (And.intro hrest hPa)); clear hkept hrest hpk0 hPe
  have hnaa : na ≤ 40000 := by have := HH.out.2.2.2.2.2.2; omega
  clear hw1 hz
  go_enter Try.func21, Try.ntmps21
  go_upto_region 2 with fail
  rw [show (w.alloc (.cells #[.int .i64 M.room, .slice none 0 0, .slice none 0 0, .slice none 0 0, .slice none 0 0, .int .i64 (-1), .bool false, .int .i64 0] 51)) = w1 from H1.out.2.2.1.symm, ← H1.out.2.2.2]
  go_upto_region 5 with (go_at_call 52; refine HR0.out.mono ?_; rintro e w1' ⟨rfl, h3⟩; subst h3)
  clear c3 d3 c0
  go_loopw [6, 8] (fun l i wr => ∃ (j : Nat) (Al : Option Addr) (cl : Nat), j ≤ P ∧ i = .int .i64 (j : Int) ∧ l = .slice Al (rd.applyAll M.safe (M.acts.take j)).length cl ∧ rf.NAt wr Al (rd.applyAll M.safe (M.acts.take j)) ∧ Below w1.heap.size w1 wr ∧ ∀ g o, Al = some ⟨g, o, none⟩ → g ≠ z) (fun _ i _ => P - (intOf i).toNat)
  case atStart =>
    refine ⟨0, As, cs, by omega, rfl, ?_, ?_, Below.refl _ _, fun g o e => ?_⟩
    · rw [← HH.out.2.2.2.2.2.1]; rfl
    · exact HH.out.2.2.1.below H1.out.2.1 (Nat.le_refl _)
    · have h1 := (HH.out.1.srow.lt g (by rw [e]; rfl)).2
      have h2 := H1.out.2.2.2
      omega
  case round =>
    obtain ⟨j, Al, cl, hj, rfl, rfl, hat, hb, hgz⟩ := hrel
    obtain ⟨l, hl⟩ : ∃ l, l = rd.applyAll M.safe (M.acts.take j) := ⟨_, rfl⟩
    rw [← hl] at hat
    rw [← hl]
    have hll : l.length ≤ 80000 := by
      have := rd.applyAll_len M.safe (M.acts.take j)
      rw [← hl, List.length_take] at this
      omega
    by_cases hlt : j < P
    · have hlt' : (j : Int) < (P : Int) := by omega
      have hja : j < M.acts.length := by have := HK.out.2.2; omega
      obtain ⟨a, ha⟩ : ∃ a, M.acts[j]? = some a := ⟨_, List.getElem?_eq_getElem hja⟩
      have hsnoc : rd.applyAll M.safe (M.acts.take (j + 1)) = rd.apply l a := by
        obtain ⟨h1, h2⟩ := List.getElem?_eq_some_iff.1 ha
        rw [List.take_succ_eq_append_getElem h1, rd.applyAll_snoc, h2, hl]
      have hri : rd.Rises l := by rw [hl]; exact rd.rises_all HH.out.2.1.rises
      have hjn : j < na := by have := HH.out.2.2.2.2.2.2; omega
      have hjn' : (j : Int) < (na : Int) := by omega
      have hbw : Below w.heap.size w wr := H1.out.2.1.trans (hb.mono H1.out.2.1.size)
      obtain ⟨ga, oa, rfl, hga, hca⟩ := (HH.out.2.2.2.1.below hbw (Nat.le_refl _)) (by omega)
      have hcell : ∀ i, i < 4 → wr.cell? ⟨ga, oa + j * 4 + i, none⟩ = some ((rf.acells a).getD i undef) := fun i hi => by
        rw [Nat.add_assoc, hca (j * 4 + i) (by omega)]
        exact congrArg some (rf.arow_at ha i hi)
      have k0 : wr.cell? ⟨ga, oa + j * 4, none⟩ = some (.int .i64 (a.kind : Int)) := hcell 0 (by omega)
      have k1 : wr.cell? ⟨ga, oa + j * 4 + 1, none⟩ = some (.string a.a) := hcell 1 (by omega)
      have k2 : wr.cell? ⟨ga, oa + j * 4 + 2, none⟩ = some (.string a.b) := hcell 2 (by omega)
      have k3 : wr.cell? ⟨ga, oa + j * 4 + 3, none⟩ = some (.int .i64 (a.f : Int)) := hcell 3 (by omega)
      have e4 := (hbw.cell (p := ⟨q, 4, none⟩) (by exact hql)).trans c4
      have hap := rf.apply_any Al cl l a wr hat (by omega) hri
      have HAP := Lib.hid (And.intro hap (And.intro hsnoc hb)); clear hap hsnoc hb hat hca hcell ha hri hl d4
      obtain ⟨ak, aa, ab, af⟩ := a
      dsimp only at k0 k1 k2 k3 HAP
      go_wp2_with (go_at_call 53; refine HAP.out.1.mono ?_; rintro e w2 ⟨v, rfl, h1, h2⟩; obtain ⟨A2, c2, hv2, -, hat2⟩ := own_at h1; subst hv2; have H2 := Lib.hid (And.intro hat2 (And.intro (HAP.out.2.2.trans (h2.mono HAP.out.2.2.size)) (show ∀ g o, A2 = some ⟨g, o, none⟩ → g ≠ z from fun g o e => by have h5 := (h1.lt g (by rw [e]; rfl)).1; have h6 := HAP.out.2.2.size; have h7 := H1.out.1.blk.lt; omega))); clear h1 h2 hat2)
      go_roundw
      case rel => exact ⟨j + 1, A2, c2, by omega, by go_num, by rw [HAP.out.2.1], by rw [HAP.out.2.1]; exact H2.out.1, H2.out.2.1, H2.out.2.2⟩
      case measure => simp [intOf]; omega
    · obtain rfl : j = P := by omega
      have hlK : l = M.keptN ps := by rw [hl]; exact HK.out.1.symm
      have hgood : rd.Good l M.files.length := by rw [hl]; exact rd.good_all HH.out.2.1.goods fun a ha => HH.out.2.1.acts a (List.mem_of_mem_take ha)
      obtain ⟨wl, rfl⟩ : ∃ wl : World, wl = wr := ⟨_, rfl⟩
      have hbw : Below w.heap.size w wl := H1.out.2.1.trans (hb.mono H1.out.2.1.size)
      have hbx : ∀ wx, Below w.heap.size w wx → RefAt wx q M G fs fv nv (.slice As M.safe.length cs) (.slice Aa M.acts.length ca) ∧ dk.Picks wx A n c ps := fun wx hx => ⟨HH.out.1.keep (chg_of (P := fun _ => False) hx) fun _ _ q => q, HH.out.2.2.2.2.1.chg (chg_of (P := fun _ => False) hx) fun _ q => q.elim⟩
      have hat0 := hat
      have hin0 : RefAt wl z (M.part (rd.crashAll M (l.take 0) (ps.drop 1))) (dk.fresh w wl) [] (.slice none 0 0) (.slice none 0 0) (.slice none 0 0) (.slice none 0 0) := by
        have h1 := H1.out.1.keep (chg_of (P := fun _ => False) hb) fun _ _ q => q
        exact h1.wide (fun k hk => ⟨hk.1, Nat.lt_of_lt_of_le hk.2 hb.size⟩) fun _ hk => hk.2
      have HL := Lib.hid (And.intro hlK (And.intro hgood (And.intro hbw (And.intro hbx (And.intro hat0 hgz))))); clear hlK hgood hbw hbx hat0 hgz hat hb hl
      have hnext : ∀ wx, Chg wl wx (fun k => k = z) → Below w.heap.size w wx := fun wx hc => HL.out.2.2.1.trans (hc.below HL.out.2.2.1.size fun k hk => by rw [hk, H1.out.2.2.2]; exact Nat.le_refl _)
      have HNX := Lib.hid hnext; clear hnext
      have HIN := Lib.hid hin0; clear hin0
      obtain ⟨nl, hnl⟩ : ∃ nl, nl = l.length := ⟨_, rfl⟩
      rw [← hnl]
      rw [← hnl] at hll
      have HNL := Lib.hid hnl; clear hnl hlt
      go_wp2_with fail
      go_loopw [9, 10] (fun kk i wx => ∃ (i' kx : Nat) (fs2 : List RFil) (fv2 nv2 : Value), i' ≤ nl ∧ i = .int .i64 (i' : Int) ∧ kk = .int .i64 (kx : Int) ∧ kx ≤ i' + 1 ∧ (rd.crashAll M (l.take i') (ps.drop 1)).picks = ps.drop kx ∧ RefAt wx z (M.part (rd.crashAll M (l.take i') (ps.drop 1))) (dk.fresh w wx) fs2 fv2 nv2 (.slice none 0 0) (.slice none 0 0) ∧ Chg wl wx (fun k => k = z) ∧ (∀ k, fv2.ownBlock = some k → wl.heap.size ≤ k) ∧ ∀ k, nv2.ownBlock = some k → wl.heap.size ≤ k) (fun _ i _ => nl - (intOf i).toNat)
      case atStart => exact ⟨0, 1, [], _, _, by omega, rfl, rfl, by omega, rfl, HIN.out, Chg.refl _ _, fun k hk => (by cases hk), fun k hk => (by cases hk)⟩
      case round =>
        obtain ⟨i, kx, fs2, fv2, nv2, hi, rfl, rfl, hkx, hpk, hra, hb, how⟩ := hrel
        by_cases hlt : i < nl
        · have hlt' : (i : Int) < (nl : Int) := by omega
          obtain ⟨⟨s, f⟩, hy⟩ : ∃ y, l[i]? = some y := ⟨_, List.getElem?_eq_getElem (by have := HNL.out; omega)⟩
          have hff := (HL.out.2.1 _ (List.mem_of_getElem? hy)).1
          dsimp only at hff
          have hbw := HNX.out wr hb
          obtain ⟨hQ, hPk⟩ := HL.out.2.2.2.1 wr hbw
          obtain ⟨y, gf, cf, efv, -, hyv, hgf, d1, d2, hyb, hfl⟩ := hQ.file_at hff
          obtain ⟨gl, ol, rfl, hglw, -⟩ := rf.NAt.at' HL.out.2.2.2.2.1 hy
          obtain ⟨gl2, ol2, hgle, hgl, e1, e2⟩ := rf.NAt.at' (hb.at' HL.out.2.2.2.2.1 fun _ g o e hk => HL.out.2.2.2.2.2 g o e hk) hy
          obtain ⟨rfl, rfl⟩ : gl = gl2 ∧ ol = ol2 := by simpa using hgle
          clear hgle
          have hyk := hglw
          clear hglw
          dsimp only at e1 e2
          have hsv := HH.out.2.1.short _ (RDisk.file_mem hff)
          rw [← hyv] at hsv
          have hstep := rd.crashAll_take (M := M) (r := ps.drop 1) hy
          have hlen := rd.crashAll_len M (l.take i) (ps.drop 1)
          rw [List.length_take] at hlen
          have hkb := dk.keepOf_bd (v := y.v) (by omega) (ps.drop kx)
          have hkd := dk.keepOf_drop y.v ps kx
          unfold rd.crashStep at hstep
          dsimp only at hstep
          rw [hpk, ← hyv] at hstep
          obtain ⟨Ab, cb, hyval, hnc, -, hatb⟩ := own_bytes hyb
          obtain ⟨nb, hnb⟩ : ∃ nb, nb = y.v.data.length := ⟨_, rfl⟩
          obtain ⟨sf, hsf⟩ : ∃ sf, sf = y.v.safe := ⟨_, rfl⟩
          obtain ⟨nf, hnf⟩ : ∃ nf, nf = fs.length := ⟨_, rfl⟩
          have c1 := hQ.blk.cell 1 (v := fv) rfl
          rw [hyval] at d1
          rw [efv] at c1
          rw [← hnb] at d1 hkb hkd hatb hsv hnc
          rw [← hsf] at d2 hkb hkd hsv
          rw [← hnf] at c1 hfl
          have hff' : (f : Int) < (nf : Int) := by omega
          have hzq := hra.blk.lt
          have hql2 := hQ.blk.lt
          have HR := Lib.hid (And.intro hra (And.intro hb (And.intro hstep (And.intro hkb (And.intro hkd (And.intro hPk (And.intro hatb (And.intro hnb hlen)))))))); clear hra hb hstep hkb hkd hPk hatb hnb hlen hpk hsf hnf hQ hyb hyv hyval efv
          have HOW := Lib.hid (And.intro how (And.intro hy hyk)); clear how hy hyk
          have p1 : ∀ x : Later wr (fun _ => False), x.1.cell? ⟨q, 1, none⟩ = some (.slice (some ⟨gf, 0, none⟩) nf cf) := fun x => x.2.cellF c1 hql2
          have p2 : ∀ x : Later wr (fun _ => False), x.1.cell? ⟨gl, ol + i * 2 + 1, none⟩ = some (.int .i64 (f : Int)) := fun x => x.2.cellF e2 hgl
          have p3 : ∀ x : Later wr (fun _ => False), x.1.cell? ⟨gf, f * 2, none⟩ = some (.slice Ab nb cb) := fun x => x.2.cellF d1 hgf
          have p4 : ∀ x : Later wr (fun _ => False), x.1.cell? ⟨gf, f * 2 + 1, none⟩ = some (.int .i64 (sf : Int)) := fun x => x.2.cellF d2 hgf
          go_upto_region 12 with fail
          have hS0 : later wr (fun _ => False) wr.drew := later_of ((Chg.refl _ _).drew)
          refine wp_plan (S := fun w0 => ∃ x : Later wr (fun _ => False), w0 = x.1) (by kernel_rfl) hS0 ?_
          intro hS' K5 hK5
          have HS := Lib.hid hS'; clear hS' hS0
          refine plan_group [true, true, true, true, true, true, true, true, true, true, true] [0, 1, 2, 3, 4, 5, 6, 7, 8, 9, 10] 2 (by dsimp only [sel]) (by rfl) rfl (by kernel_rfl) (by kernel_rfl) HS.out ?_
          (repeat go_big_quiet_step (fail)); refine wpQuiet_nil ?_
          refine plan_one [false, false, false, false, false, false, false, false, false, false, false, true] 11 1 (by dsimp only [sel]) (by rfl) rfl (by kernel_rfl) ?_; intro K1 hK1; go_wp2_with fail
          refine ⟨later_of (Chg.alloc _ _ _).drew, ?_⟩
          refine plan_one [false, false, false, false, false, false, false, false, false, false, false, false, true] 12 0 (by dsimp only [sel]) (by rfl) rfl (by kernel_rfl) ?_; intro K1 hK1; go_wp2_with fail
          refine ⟨later_of (Chg.alloc _ _ _).drew, ?_⟩
          refine wp_plan_end (by kernel_rfl) ?_
          obtain ⟨w3, hw3⟩ : ∃ w3, w3 = (wr.alloc (.cells #[.slice Ab nb cb, .int .i64 (sf : Int)] 89)).drew := ⟨_, rfl⟩
          obtain ⟨g3, hg3⟩ : ∃ g3, g3 = wr.heap.size := ⟨_, rfl⟩
          have hc3 : Chg wr w3 (fun _ => False) := by rw [hw3]; exact (Chg.alloc _ _ _).drew
          have hb3 : Blk w3 g3 89 #[.slice Ab nb cb, .int .i64 (sf : Int)] := by rw [hw3, hg3]; exact (Blk.new _ _ _).drew 1
          have hbe3 : Below wr.heap.size wr w3 := by rw [hw3]; exact bdrew ((Below.refl _ _).alloc (Nat.le_refl _) _) 1
          rw [← hw3, ← hg3]
          have hg3z : g3 ≠ z := by omega
          have u4 : w3.cell? ⟨g3, 0, none⟩ = some (.slice Ab nb cb) := hb3.cell 0 rfl
          have u5 : w3.cell? ⟨g3, 1, none⟩ = some (.int .i64 (sf : Int)) := hb3.cell 1 rfl
          have hrd := rf.round_any A n c kx ps ((nb : Int) - (sf : Int)) w3 (HR.out.2.2.2.2.2.1.chg hc3 fun _ q => q.elim) (by have := HNL.out; omega) (by omega)
          have hgK : ∀ k, fv2.ownBlock = some k → ¬ k = g3 := fun k hk => by have := (HR.out.1.frow.lt k hk).2; omega
          have HRD := Lib.hid (And.intro hrd (And.intro hc3 (And.intro hb3 (And.intro hbe3 hgK)))); clear hrd hc3 hb3 hbe3 hgK hw3 hg3 p1 p2 p3 p4 c1 d1 d2 e1 e2
          have hcount : ∃ (N kx' : Nat), (dk.keepOf y.v (ps.drop kx)) = ((N : Int), ps.drop kx') ∧ kx' ≤ i + 2 ∧ N ≤ nb ∧ ((sf < nb ∧ (N : Int) = (sf : Int) + (dk.pick (ps.drop kx) ((nb : Int) - (sf : Int))).1 ∧ kx' = kx + 1) ∨ (¬ sf < nb ∧ N = sf ∧ kx' = kx)) := by
            obtain ⟨q1, q2⟩ := HR.out.2.2.2.1
            have q3 := HR.out.2.2.2.2.1
            by_cases hq : sf < nb
            · rw [if_pos (by omega)] at q3
              rw [q3] at q1 q2 ⊢
              dsimp only at q1 q2
              exact ⟨((sf : Int) + (dk.pick (ps.drop kx) ((nb : Int) - (sf : Int))).1).toNat, kx + 1, by rw [Int.toNat_of_nonneg (by omega)], by omega, by omega, .inl ⟨hq, by omega, rfl⟩⟩
            · rw [if_neg (by omega)] at q3
              exact ⟨sf, kx, q3, by omega, by omega, .inr ⟨hq, rfl, rfl⟩⟩
          obtain ⟨N, kx', hke, hkx', hNb, hcs⟩ := hcount
          have HKE := Lib.hid hke; clear hke
          have hNc : N ≤ cb := by omega
          rcases hcs with ⟨hq, hN, hk⟩ | ⟨hq, hN, hk⟩
          · have hq' : (sf : Int) < (nb : Int) := by omega
            obtain ⟨pp, hpp⟩ : ∃ pp, pp = (dk.pick (ps.drop kx) ((nb : Int) - (sf : Int))).1 := ⟨_, rfl⟩
            have hpb := dk.pick_le (L := ps.drop kx) (most := (nb : Int) - (sf : Int)) (by omega)
            rw [← hpp] at HRD hN hpb
            have hsb : (nb : Int) ≤ 1099511627776 := by omega
            have hN' : (sf : Int) + pp = (N : Int) := hN.symm
            have hk' : (kx : Int) + 1 = (kx' : Int) := by omega
            have HNK := Lib.hid (And.intro hN' hk'); clear hpp hN hk hN' hk'
            go_upto_region 17 with (go_at_call 52; refine HRD.out.1.mono ?_; rintro e w3' ⟨rfl, h3⟩; subst h3)
            rw [HNK.out.1, HNK.out.2]
            clear hpb hsb
            have hra3 : RefAt w3 z (M.part (rd.crashAll M (l.take i) (ps.drop 1))) (dk.fresh w w3) fs2 fv2 nv2 (.slice none 0 0) (.slice none 0 0) := (HR.out.1.keep HRD.out.2.1 fun _ _ q => q).wide (fun k hk => ⟨hk.1, Nat.lt_of_lt_of_le hk.2 HRD.out.2.1.size⟩) fun _ hk => hk.2
            obtain ⟨Af, cf2, hfv2, hfc, -⟩ := own_at hra3.frow
            obtain ⟨m2, hm2⟩ : ∃ m2, m2 = fs2.length := ⟨_, rfl⟩
            have hm2i : m2 = i := by
              have h1 := congrArg List.length hra3.files
              rw [List.length_map] at h1
              have h2 := HR.out.2.2.2.2.2.2.2.2.1
              have h3 : (M.part (rd.crashAll M (l.take i) (ps.drop 1))).files.length = (rd.crashAll M (l.take i) (ps.drop 1)).files.length := rfl
              have h4 := HNL.out
              omega
            rw [← hm2] at hfv2 hfc
            have hzK : ¬ (Value.slice Af m2 cf2).ownBlock = some z := by rw [← hfv2]; exact hra3.blk.not_row (by decide) hra3.frow
            have hgK : ¬ (Value.slice Af m2 cf2).ownBlock = some g3 := by rw [← hfv2]; exact fun h => HRD.out.2.2.2.2 g3 h rfl
            have hrow3 : w3.ownsRow 0 89 2 (.slice Af m2 cf2) m2 (rf.frow fs2) := by rw [← hfv2, hm2]; exact hra3.frow
            have q1 : ∀ x : Later w3 (fun k => (Value.slice Af m2 cf2).ownBlock = some k), x.1.cell? ⟨z, 1, none⟩ = some (.slice Af m2 cf2) := fun x => (x.2.blk hra3.blk hzK).cell 1 (by rw [← hfv2]; rfl)
            have q4 : ∀ x : Later w3 (fun k => (Value.slice Af m2 cf2).ownBlock = some k), x.1.cell? ⟨g3, 0, none⟩ = some (.slice Ab nb cb) := fun x => (x.2.blk HRD.out.2.2.1 hgK).cell 0 rfl
            obtain ⟨i0, hi0, hz0, hz1, hz2⟩ := info_parts infoByte
            have HIB := Lib.hid (And.intro hi0 (And.intro hz0 (And.intro hz1 hz2))); clear hi0 hz0 hz1 hz2
            obtain ⟨j0, hj0, hj1, hj2, hj3⟩ := info_parts rf.infoFile
            have HIF := Lib.hid (And.intro hj0 (And.intro hj1 (And.intro hj2 hj3))); clear hj0 hj1 hj2 hj3
            have hm5 : (w3.alloc (.cells #[] 5)).drew.ownsRow w3.heap.size 5 1 (.slice (some ⟨w3.heap.size, 0, none⟩) 0 0) 0 [] := World.ownsRow_made w3 #[] 0 (Nat.le_refl _) (by unfold maxLen; omega) (by simp)
            have hba : Below w3.heap.size w3 (w3.alloc (.cells #[] 5)).drew := bdrew ((Below.refl _ _).alloc (Nat.le_refl _) _) 1
            have hsrc : At (w3.alloc (.cells #[] 5)).drew Ab N (byteAt (y.v.data.take N)) := by
              refine ((((HR.out.2.2.2.2.2.2.1.le hNb).congr fun j hj => ?_).at_chg HRD.out.2.1).below (w := w3) hba (Nat.le_refl _))
              unfold byteAt
              simp [List.getD, hj]
            have hbl : (y.v.data.take N).length = N := by rw [List.length_take, ← HR.out.2.2.2.2.2.2.2.1]; omega
            have HM5 := Lib.hid (And.intro hm5 (And.intro hba (And.intro hsrc hbl))); clear hm5 hba hsrc hbl
            have H3 := Lib.hid (And.intro hra3 (And.intro hfv2 (And.intro hm2 (And.intro hm2i (And.intro hrow3 (And.intro hzK hgK)))))); clear hra3 hfv2 hm2 hm2i hrow3 hzK hgK
            have hS0 : later w3 (fun k => (Value.slice Af m2 cf2).ownBlock = some k) w3.drew := later_of ((Chg.refl _ _).drew)
            refine wp_planz 17 (S := fun w0 => ∃ x : Later w3 (fun k => (Value.slice Af m2 cf2).ownBlock = some k), w0 = x.1) (by kernel_rfl) hS0 ?_
            intro hS' K6 hK6
            have HS6 := Lib.hid hS'; clear hS' hS0
            refine planz_group [true, true, true, true, true, false, true, true, true, true, false, true] [0, 1, 2, 3, 4, 6, 7, 8, 9, 11] 8 (by dsimp only [sel]) (by rfl) rfl (by kernel_rfl) (by kernel_rfl) (by kernel_rfl) HS6.out ?_
            (repeat go_big_quiet_step (fail)); refine wpQuiet_nil ?_
            refine planz_one [false, false, false, false, false, true] 5 7 (by dsimp only [sel]) (by rfl) rfl (by kernel_rfl) ?_; intro K1 hK1; go_wp2_with fail
            obtain ⟨w4, hw4⟩ : ∃ w4, w4 = (w3.alloc (.cells #[] 5)).drew := ⟨_, rfl⟩
            have hd4 : w3.drew.heap.size = w3.heap.size := rfl
            rw [← hw4] at HM5 ⊢
            clear hw4
            have hl4 : later w3 (fun k => (Value.slice Af m2 cf2).ownBlock = some k) w4 := later_of (chg_of HM5.out.2.1)
            have HL4 := Lib.hid hl4; clear hl4
            refine ⟨by first | exact HL4.out | exact fun _ => HL4.out, ?_⟩
            refine planz_one [false, false, false, false, false, false, false, false, false, false, true] 10 6 (by dsimp only [sel]) (by rfl) rfl (by kernel_rfl) ?_; intro K1 hK1
            go_wp2_with (at_builtin; go_loud (refine wpList_app2 _ rfl (.tmp 87) (.tmp 91) 34 rfl w3.heap.size 5 i0 _ 1 1 Try.underlying34 HIB.out.1 HIB.out.2.1 HIB.out.2.2.1 HIB.out.2.2.2 rfl (by decide) _ 0 [] rfl HM5.out.1 Ab N cb (byteAt (y.v.data.take N)) rfl (by rw [Nat.mul_one]; exact HM5.out.2.2.1) (fun j _ => byteAt_one _ j) (by unfold maxLen; omega) (by omega) (by have := HM5.out.2.1.size; omega) ?_); intro v5 w5 hown hg hl; rw [List.nil_append, byteAt_cells_n _ N HM5.out.2.2.2, Nat.zero_add] at hown; have hb5 : Below w3.heap.size w3 w5 := HM5.out.2.1.grown hg HM5.out.2.1.size (fun g hg => (HM5.out.1.lt g hg).1); obtain ⟨A5, c5, hv5, -⟩ := own_at hown; subst hv5; have H5 := Lib.hid (And.intro hown hb5); clear hown hg hl hb5)
            have hl5 : later w3 (fun k => (Value.slice Af m2 cf2).ownBlock = some k) w5 := later_of (chg_of H5.out.2)
            have HL5 := Lib.hid hl5; clear hl5
            refine ⟨by first | exact HL5.out | exact fun _ => HL5.out, ?_⟩
            go_simp
            refine planz_group [false, false, false, false, false, false, false, false, false, false, false, false, true] [12] 5 (by dsimp only [sel]) (by rfl) rfl (by kernel_rfl) (by kernel_rfl) (by kernel_rfl) HL5.out ?_
            (repeat go_big_quiet_step (fail)); refine wpQuiet_nil ?_
            refine planz_one [false, false, false, false, false, false, false, false, false, false, false, false, false, true] 13 4 (by dsimp only [sel]) (by rfl) rfl (by kernel_rfl) ?_; intro K1 hK1; go_wp2_with fail
            have hl6 : later w3 (fun k => (Value.slice Af m2 cf2).ownBlock = some k) (w5.alloc (.cells #[.slice A5 N c5, .int .i64 (N : Int)] 89)) := later_of ((chg_of H5.out.2).trans (Chg.alloc _ _ _) fun _ _ q => q)
            have HL6 := Lib.hid hl6; clear hl6
            refine ⟨by first | exact HL6.out | exact fun _ => HL6.out, ?_⟩
            have hown6 : (w5.alloc (.cells #[.slice A5 N c5, .int .i64 (N : Int)] 89)).ownsRow 0 89 2 (.slice Af m2 cf2) m2 (rf.frow fs2) := ((chg_of (P := fun _ => False) H5.out.2).own H3.out.2.2.2.2.1 fun _ _ q => q).alloc _
            have hcel := cells_new w5 [.slice A5 N c5, .int .i64 (N : Int)] 89 w5.heap.size rfl
            have hone : ∀ x ∈ ([.slice A5 N c5, .int .i64 (N : Int)] : List Value), x.oneCell' = true := fun x hx => by
              simp only [List.mem_cons, List.not_mem_nil, or_false] at hx
              rcases hx with rfl | rfl <;> rfl
            have HO6 := Lib.hid (And.intro hown6 (And.intro hcel hone)); clear hown6 hcel hone
            have hm290 : m2 ≤ 100000 := by have := H3.out.2.2.2.1; omega
            refine planz_one [false, false, false, false, false, false, false, false, false, false, false, false, false, false, true] 14 3 (by dsimp only [sel]) (by rfl) rfl (by kernel_rfl) ?_; intro K1 hK1
            go_wp2_with (at_builtin; go_loud (refine wpList_append_own_at _ rfl (.tmp 86) (.tmp 95) 47 rfl 0 89 j0 _ 2 32 Try.underlying47 HIF.out.1 HIF.out.2.1 HIF.out.2.2.1 HIF.out.2.2.2 rfl (by decide) (.slice Af m2 cf2) m2 (rf.frow fs2) rfl HO6.out.1 ⟨w5.heap.size, 0, none⟩ 1 1 [.slice A5 N c5, .int .i64 (N : Int)] rfl rfl HO6.out.2.1 HO6.out.2.2 (by unfold maxLen; omega) (by omega) (by simp) ?_; intro v7 w7 h1 h2 _ h3; have H7 := Lib.hid (And.intro h1 (And.intro h2 h3)); clear h1 h2 h3))
            obtain ⟨A7, c7, hv7, -, -⟩ := own_at H7.out.1
            subst hv7
            have hc7 : Chg w3 w7 (fun k => (Value.slice Af m2 cf2).ownBlock = some k) := ((chg_of (P := fun k => (Value.slice Af m2 cf2).ownBlock = some k) H5.out.2).trans (Chg.alloc _ _ (fun _ => False)) fun _ _ q => q.elim).trans (Chg.grown H7.out.2.1) fun _ _ q => q
            have hbz7 := hc7.blk H3.out.1.blk H3.out.2.2.2.2.2.1
            have n1 : w7.cell? ⟨z, 1, none⟩ = some (.slice Af m2 cf2) := q1 ⟨w7, hc7⟩
            have z1 := hbz7.frozen 1
            have hzl7 := hbz7.lt
            have h3' := H3.out.1
            rw [H3.out.2.1] at h3'
            have hpf := RefAt.push_file (x := ⟨.slice A5 N c5, ⟨y.v.data.take N, N⟩⟩) h3' rfl rfl hc7 (by rw [← H3.out.2.2.1]; exact H7.out.1) (fun k hk => by
                rcases H7.out.2.2 with e | e
                · exact .inl (h3'.foot.2.1 k (by rw [← e]; exact hk))
                · rw [e] at hk
                  have hk : (w5.alloc (.cells #[.slice A5 N c5, .int .i64 (N : Int)] 89)).heap.size = k := by simpa using hk
                  have := H5.out.2.size
                  rw [World.size_alloc] at hk
                  exact .inr (by omega)) (by
                dsimp only
                rw [HM5.out.2.2.2]
                have h5a := (ownsRow_base H5.out.1 (Nat.zero_le _)).alloc (.cells #[.slice A5 N c5, .int .i64 (N : Int)] 89)
                exact (Chg.grown H7.out.2.1).own h5a fun k hk hk2 => rows_apart h5a HO6.out.1 (by decide) hk hk2) (fun k hk => .inr (H5.out.1.lt k hk).1)
            have HPF := Lib.hid hpf; clear hpf h3' hbz7
            have hl7 : later w3 (fun k => (Value.slice Af m2 cf2).ownBlock = some k) w7 := later_of hc7
            have HL7 := Lib.hid hl7; clear hl7 hc7
            refine ⟨by first | exact HL7.out | exact fun _ => HL7.out, ?_⟩
            go_simp
            refine planz_one [false, false, false, false, false, false, false, false, false, false, false, false, false, false, false, true] 15 2 (by dsimp only [sel]) (by rfl) rfl (by kernel_rfl) ?_; intro K1 hK1; go_wp2_with fail
            refine ⟨by first | exact HL7.out | exact fun _ => HL7.out, ?_⟩
            refine planz_one [false, false, false, false, false, false, false, false, false, false, false, false, false, false, false, false, true] 16 1 (by dsimp only [sel]) (by rfl) rfl (by kernel_rfl) ?_; intro K1 hK1; go_wp2_with fail
            refine ⟨by first | exact HL7.out | exact fun _ => HL7.out, ?_⟩
            refine planz_one [false, false, false, false, false, false, false, false, false, false, false, false, false, false, false, false, false, true] 17 0 (by dsimp only [sel]) (by rfl) rfl (by kernel_rfl) ?_; intro K1 hK1; go_wp2_with fail
            first | (refine ⟨fun h => absurd rfl h, ?_⟩; refine wp_planz_end (by kernel_rfl) ?_) | refine wp_planz_end (by kernel_rfl) ?_ | refine ⟨by kernel_rfl, ?_⟩
            obtain ⟨w8, hw8⟩ : ∃ w8, w8 = w7.setCell ⟨z, 1, none⟩ (.slice A7 (m2 + 1) c7) := ⟨_, rfl⟩
            rw [← hw8] at HPF ⊢
            clear hw8 q1 q4 n1 z1
            have hcl8 : Chg wl w8 (fun k => k = z) := (HR.out.2.1.trans HRD.out.2.1 fun _ _ q => q.elim).trans HPF.out.2 fun k hk q => q.elim (fun e => absurd hk (Nat.not_lt.2 (HOW.out.1.1 k (by rw [H3.out.2.1]; exact e)))) id
            obtain ⟨gl2, ol2, hgle, hgl8, e18, -⟩ := rf.NAt.at' (hcl8.at' HL.out.2.2.2.2.1 fun _ g o e hk => HL.out.2.2.2.2.2 g o e hk) HOW.out.2.1
            obtain ⟨rfl, rfl⟩ : gl = gl2 ∧ ol = ol2 := by simpa using hgle
            clear hgle
            dsimp only at e18
            have hra8 := HPF.out.1
            obtain ⟨An, cn, hnv2, -, -⟩ := own_at hra8.nrow
            have hm3 : (M.part (rd.crashAll M (l.take i) (ps.drop 1))).now.length = i := by
              have h2 := HR.out.2.2.2.2.2.2.2.2.2
              have h4 := HNL.out
              have h5 : (M.part (rd.crashAll M (l.take i) (ps.drop 1))).now.length = (rd.crashAll M (l.take i) (ps.drop 1)).names.length := rfl
              omega
            dsimp only at hnv2
            rw [hm3] at hnv2
            have hzN : ¬ (Value.slice An i cn).ownBlock = some z := by rw [← hnv2]; exact hra8.blk.not_row (by decide) hra8.nrow
            have hglN : ¬ (Value.slice An i cn).ownBlock = some gl := by rw [← hnv2]; exact fun h => absurd HOW.out.2.2 (Nat.not_lt.2 (HOW.out.1.2 gl h))
            have q1 : ∀ x : Later w8 (fun k => (Value.slice An i cn).ownBlock = some k), x.1.cell? ⟨z, 2, none⟩ = some (.slice An i cn) := fun x => (x.2.blk hra8.blk hzN).cell 2 (by rw [← hnv2]; rfl)
            have q5 : ∀ x : Later w8 (fun k => (Value.slice An i cn).ownBlock = some k), x.1.cell? ⟨z, 1, none⟩ = some (.slice A7 (m2 + 1) c7) := fun x => (x.2.blk hra8.blk hzN).cell 1 rfl
            have q6 : ∀ x : Later w8 (fun k => (Value.slice An i cn).ownBlock = some k), x.1.cell? ⟨gl, ol + i * 2, none⟩ = some (.string s) := fun x => x.2.cellP e18 hgl8 hglN
            have v5 : w8.drew.cell? ⟨z, 1, none⟩ = some (.slice A7 (m2 + 1) c7) := q5 ⟨w8.drew, (Chg.refl _ _).drew⟩
            have HX8 := Lib.hid (And.intro hra8 (And.intro hcl8 (And.intro hnv2 (And.intro hm3 hzN)))); clear hra8 hcl8 hnv2 hm3 hzN hglN e18 hgl8
            go_upto_region 18 with fail
            have hS8 : later w8 (fun k => (Value.slice An i cn).ownBlock = some k) w8.drew := later_of ((Chg.refl _ _).drew)
            refine wp_planz 21 (S := fun w0 => ∃ x : Later w8 (fun k => (Value.slice An i cn).ownBlock = some k), w0 = x.1) (by kernel_rfl) hS8 ?_
            intro hS' K7 hK7
            have HS7 := Lib.hid hS'; clear hS' hS8
            refine planz_group [true, true, true, true, true, true, true, true, true, true, true, true, true] [0, 1, 2, 3, 4, 5, 6, 7, 8, 9, 10, 11, 12] 9 (by dsimp only [sel]) (by rfl) rfl (by kernel_rfl) (by kernel_rfl) (by kernel_rfl) HS7.out ?_
            (repeat go_big_quiet_step (fail)); refine wpQuiet_nil ?_
            refine planz_one [false, false, false, false, false, false, false, false, false, false, false, false, false, true] 13 8 (by dsimp only [sel]) (by rfl) rfl (by kernel_rfl) ?_; intro K1 hK1; go_wp2_with fail
            refine ⟨by first | exact HS7.out | exact fun _ => HS7.out, ?_⟩
            refine planz_group [false, false, false, false, false, false, false, false, false, false, false, false, false, false, true, true, true] [14, 15, 16] 5 (by dsimp only [sel]) (by rfl) rfl (by kernel_rfl) (by kernel_rfl) (by kernel_rfl) HS7.out ?_
            (repeat go_big_quiet_step (fail)); refine wpQuiet_nil ?_
            refine planz_one [false, false, false, false, false, false, false, false, false, false, false, false, false, false, false, false, false, true] 17 4 (by dsimp only [sel]) (by rfl) rfl (by kernel_rfl) ?_; intro K1 hK1; go_wp2_with fail
            obtain ⟨w9, hw9⟩ : ∃ w9, w9 = (w8.alloc (.cells #[.string s, .int .i64 (m2 : Int)] 78)).drew := ⟨_, rfl⟩
            have hcel : ∀ j u, ([.string s, .int .i64 (m2 : Int)] : List Value)[j]? = some u → w9.cell? ((⟨w8.heap.size, 0, none⟩ : Addr).add j) = some u := by rw [hw9]; exact cells_new w8 _ _ _ rfl
            have hc9 : Chg w8 w9 (fun _ => False) := by rw [hw9]; exact (Chg.alloc _ _ _).drew
            have hs9 : w9.heap.size = w8.heap.size + 1 := by rw [hw9]; exact World.size_alloc _ _
            rw [← hw9]
            clear hw9
            have hl9 : later w8 (fun k => (Value.slice An i cn).ownBlock = some k) w9 := later_of (hc9.mono fun _ _ q => q.elim)
            have HL9 := Lib.hid hl9; clear hl9
            refine ⟨by first | exact HL9.out | exact fun _ => HL9.out, ?_⟩
            have h8' := HX8.out.1
            rw [HX8.out.2.2.1] at h8'
            have hown8 := h8'.nrow
            dsimp only at hown8
            rw [HX8.out.2.2.2.1] at hown8
            have hown9 := hc9.own hown8 fun _ _ q => q
            have hone : ∀ x ∈ ([.string s, .int .i64 (m2 : Int)] : List Value), x.oneCell' = true := fun x hx => by
              simp only [List.mem_cons, List.not_mem_nil, or_false] at hx
              rcases hx with rfl | rfl <;> rfl
            have HO9 := Lib.hid (And.intro hown9 (And.intro hcel (And.intro hone (And.intro h8' (And.intro hc9 hs9))))); clear hown9 hcel hone h8' hc9 hs9 hown8
            obtain ⟨k0, hk0, hk1, hk2, hk3⟩ := info_parts rf.infoName
            have HIN2 := Lib.hid (And.intro hk0 (And.intro hk1 (And.intro hk2 hk3))); clear hk0 hk1 hk2 hk3
            have hi90 : i ≤ 100000 := by omega
            refine planz_one [false, false, false, false, false, false, false, false, false, false, false, false, false, false, false, false, false, false, true] 18 3 (by dsimp only [sel]) (by rfl) rfl (by kernel_rfl) ?_; intro K1 hK1
            go_wp2_with (at_builtin; go_loud (refine wpList_append_own_at _ rfl (.tmp 103) (.tmp 116) 48 rfl 0 78 k0 _ 2 24 Try.underlying48 HIN2.out.1 HIN2.out.2.1 HIN2.out.2.2.1 HIN2.out.2.2.2 rfl (by decide) (.slice An i cn) i _ rfl HO9.out.1 ⟨w8.heap.size, 0, none⟩ 1 1 [.string s, .int .i64 (m2 : Int)] rfl rfl HO9.out.2.1 HO9.out.2.2.1 (by unfold maxLen; omega) (by omega) (by simp) ?_; intro v10 w10 h1 h2 _ h3; have H10 := Lib.hid (And.intro h1 (And.intro h2 h3)); clear h1 h2 h3))
            obtain ⟨A10, c10, hv10, -, -⟩ := own_at H10.out.1
            subst hv10
            have hc10 : Chg w8 w10 (fun k => (Value.slice An i cn).ownBlock = some k) := (HO9.out.2.2.2.2.1.mono fun _ _ q => q.elim).trans (Chg.grown H10.out.2.1) fun _ _ q => q
            have hbz10 := hc10.blk HO9.out.2.2.2.1.blk HX8.out.2.2.2.2
            have n2 : w10.cell? ⟨z, 2, none⟩ = some (.slice An i cn) := q1 ⟨w10, hc10⟩
            have z2 := hbz10.frozen 2
            have hzl10 := hbz10.lt
            have hpn := RefAt.push_name (x := (s, m2)) HO9.out.2.2.2.1 rfl rfl hc10 (by dsimp only; rw [HX8.out.2.2.2.1]; exact H10.out.1) (fun k hk => by
                rcases H10.out.2.2 with e | e
                · exact .inl (HO9.out.2.2.2.1.foot.2.2.1 k (by rw [← e]; exact hk))
                · rw [e] at hk
                  have hk : w9.heap.size = k := by simpa using hk
                  exact .inr (by have := HO9.out.2.2.2.2.2; omega))
            have hnew : ∀ k, (Value.slice A10 (i + 1) c10).ownBlock = some k → wl.heap.size ≤ k := fun k hk => by
                rcases H10.out.2.2 with e | e
                · exact HOW.out.1.2 k (by rw [HX8.out.2.2.1, ← e]; exact hk)
                · rw [e] at hk
                  have hk : w9.heap.size = k := by simpa using hk
                  have h1 := HO9.out.2.2.2.2.2
                  have h2 := HX8.out.2.1.size
                  omega
            have HPN := Lib.hid (And.intro hpn hnew); clear hpn hnew hbz10
            have hl10 : later w8 (fun k => (Value.slice An i cn).ownBlock = some k) w10 := later_of hc10
            have HL10 := Lib.hid hl10; clear hl10 hc10
            refine ⟨by first | exact HL10.out | exact fun _ => HL10.out, ?_⟩
            go_simp
            refine planz_one [false, false, false, false, false, false, false, false, false, false, false, false, false, false, false, false, false, false, false, true] 19 2 (by dsimp only [sel]) (by rfl) rfl (by kernel_rfl) ?_; intro K1 hK1; go_wp2_with fail
            refine ⟨by first | exact HL10.out | exact fun _ => HL10.out, ?_⟩
            refine planz_one [false, false, false, false, false, false, false, false, false, false, false, false, false, false, false, false, false, false, false, false, true] 20 1 (by dsimp only [sel]) (by rfl) rfl (by kernel_rfl) ?_; intro K1 hK1; go_wp2_with fail
            refine ⟨by first | exact HL10.out | exact fun _ => HL10.out, ?_⟩
            refine planz_one [false, false, false, false, false, false, false, false, false, false, false, false, false, false, false, false, false, false, false, false, false, true] 21 0 (by dsimp only [sel]) (by rfl) rfl (by kernel_rfl) ?_; intro K1 hK1; go_wp2_with fail
            first | (refine ⟨fun h => absurd rfl h, ?_⟩; refine wp_planz_end (by kernel_rfl) ?_) | refine wp_planz_end (by kernel_rfl) ?_ | refine ⟨by kernel_rfl, ?_⟩
            obtain ⟨w11, hw11⟩ : ∃ w11, w11 = w10.setCell ⟨z, 2, none⟩ (.slice A10 (i + 1) c10) := ⟨_, rfl⟩
            rw [← hw11] at HPN ⊢
            clear hw11 q1 q5 q6 n2 z2 v5
            go_wp2_with fail
            refine ⟨?_, ?_⟩
            · skip
              have hM : M.part (rd.crashAll M (l.take (i + 1)) (ps.drop 1)) = { { M.part (rd.crashAll M (l.take i) (ps.drop 1)) with files := (M.part (rd.crashAll M (l.take i) (ps.drop 1))).files ++ [(⟨y.v.data.take N, N⟩ : FileV)] } with now := (M.part (rd.crashAll M (l.take i) (ps.drop 1))).now ++ [(s, m2)] } := by
                have h2 := HR.out.2.2.2.2.2.2.2.2.1
                have h4 := HNL.out
                have h5 : (rd.crashAll M (l.take i) (ps.drop 1)).files.length = m2 := by rw [H3.out.2.2.2.1]; omega
                rw [HR.out.2.2.1, HKE.out]
                unfold RDisk.part
                dsimp only
                rw [h5, Int.toNat_natCast]
              refine ⟨i + 1, kx', fs2 ++ [⟨.slice A5 N c5, ⟨y.v.data.take N, N⟩⟩], .slice A7 (m2 + 1) c7, .slice A10 (i + 1) c10, by omega, by go_num, rfl, by omega, ?_, ?_, ?_, ?_, HPN.out.2⟩
              · rw [HR.out.2.2.1, HKE.out]
              · rw [hM]
                refine HPN.out.1.1.wide (fun k hk => ?_) fun _ hk => hk.2
                have h1 := HRD.out.2.1.size
                have h2 := HPF.out.2.size
                have h3 := hbw.size
                exact ⟨hk.1.elim (fun x => x.1.elim (fun y => y.1) fun y => by omega) fun x => by omega, hk.2⟩
              · exact HX8.out.2.1.trans HPN.out.1.2 fun k hk q => q.elim (fun e => absurd hk (Nat.not_lt.2 (HOW.out.1.2 k (by rw [HX8.out.2.2.1]; exact e)))) id
              · exact fun k hk => by
                  rcases H7.out.2.2 with e | e
                  · exact HOW.out.1.1 k (by rw [H3.out.2.1, ← e]; exact hk)
                  · rw [e] at hk
                    have hk : (w5.alloc (.cells #[.slice A5 N c5, .int .i64 (N : Int)] 89)).heap.size = k := by simpa using hk
                    rw [World.size_alloc] at hk
                    have h1 := H5.out.2.size
                    have h2 := HRD.out.2.1.size
                    have h3 := HR.out.2.1.size
                    omega
            · simp [intOf]; omega
          · have hq' : ¬ (sf : Int) < (nb : Int) := by omega
            have hN' : (sf : Int) = (N : Int) := by omega
            have hk' : (kx : Int) = (kx' : Int) := by omega
            have HNK := Lib.hid (And.intro hN' hk'); clear hN hk hN' hk'
            go_upto_region 17 with fail
            rw [HNK.out.1, HNK.out.2]
            have hra3 : RefAt w3 z (M.part (rd.crashAll M (l.take i) (ps.drop 1))) (dk.fresh w w3) fs2 fv2 nv2 (.slice none 0 0) (.slice none 0 0) := (HR.out.1.keep HRD.out.2.1 fun _ _ q => q).wide (fun k hk => ⟨hk.1, Nat.lt_of_lt_of_le hk.2 HRD.out.2.1.size⟩) fun _ hk => hk.2
            obtain ⟨Af, cf2, hfv2, hfc, -⟩ := own_at hra3.frow
            obtain ⟨m2, hm2⟩ : ∃ m2, m2 = fs2.length := ⟨_, rfl⟩
            have hm2i : m2 = i := by
              have h1 := congrArg List.length hra3.files
              rw [List.length_map] at h1
              have h2 := HR.out.2.2.2.2.2.2.2.2.1
              have h3 : (M.part (rd.crashAll M (l.take i) (ps.drop 1))).files.length = (rd.crashAll M (l.take i) (ps.drop 1)).files.length := rfl
              have h4 := HNL.out
              omega
            rw [← hm2] at hfv2 hfc
            have hzK : ¬ (Value.slice Af m2 cf2).ownBlock = some z := by rw [← hfv2]; exact hra3.blk.not_row (by decide) hra3.frow
            have hgK : ¬ (Value.slice Af m2 cf2).ownBlock = some g3 := by rw [← hfv2]; exact fun h => HRD.out.2.2.2.2 g3 h rfl
            have hrow3 : w3.ownsRow 0 89 2 (.slice Af m2 cf2) m2 (rf.frow fs2) := by rw [← hfv2, hm2]; exact hra3.frow
            have q1 : ∀ x : Later w3 (fun k => (Value.slice Af m2 cf2).ownBlock = some k), x.1.cell? ⟨z, 1, none⟩ = some (.slice Af m2 cf2) := fun x => (x.2.blk hra3.blk hzK).cell 1 (by rw [← hfv2]; rfl)
            have q4 : ∀ x : Later w3 (fun k => (Value.slice Af m2 cf2).ownBlock = some k), x.1.cell? ⟨g3, 0, none⟩ = some (.slice Ab nb cb) := fun x => (x.2.blk HRD.out.2.2.1 hgK).cell 0 rfl
            obtain ⟨i0, hi0, hz0, hz1, hz2⟩ := info_parts infoByte
            have HIB := Lib.hid (And.intro hi0 (And.intro hz0 (And.intro hz1 hz2))); clear hi0 hz0 hz1 hz2
            obtain ⟨j0, hj0, hj1, hj2, hj3⟩ := info_parts rf.infoFile
            have HIF := Lib.hid (And.intro hj0 (And.intro hj1 (And.intro hj2 hj3))); clear hj0 hj1 hj2 hj3
            have hm5 : (w3.alloc (.cells #[] 5)).drew.ownsRow w3.heap.size 5 1 (.slice (some ⟨w3.heap.size, 0, none⟩) 0 0) 0 [] := World.ownsRow_made w3 #[] 0 (Nat.le_refl _) (by unfold maxLen; omega) (by simp)
            have hba : Below w3.heap.size w3 (w3.alloc (.cells #[] 5)).drew := bdrew ((Below.refl _ _).alloc (Nat.le_refl _) _) 1
            have hsrc : At (w3.alloc (.cells #[] 5)).drew Ab N (byteAt (y.v.data.take N)) := by
              refine ((((HR.out.2.2.2.2.2.2.1.le hNb).congr fun j hj => ?_).at_chg HRD.out.2.1).below (w := w3) hba (Nat.le_refl _))
              unfold byteAt
              simp [List.getD, hj]
            have hbl : (y.v.data.take N).length = N := by rw [List.length_take, ← HR.out.2.2.2.2.2.2.2.1]; omega
            have HM5 := Lib.hid (And.intro hm5 (And.intro hba (And.intro hsrc hbl))); clear hm5 hba hsrc hbl
            have H3 := Lib.hid (And.intro hra3 (And.intro hfv2 (And.intro hm2 (And.intro hm2i (And.intro hrow3 (And.intro hzK hgK)))))); clear hra3 hfv2 hm2 hm2i hrow3 hzK hgK
            have hS0 : later w3 (fun k => (Value.slice Af m2 cf2).ownBlock = some k) w3.drew := later_of ((Chg.refl _ _).drew)
            refine wp_planz 17 (S := fun w0 => ∃ x : Later w3 (fun k => (Value.slice Af m2 cf2).ownBlock = some k), w0 = x.1) (by kernel_rfl) hS0 ?_
            intro hS' K6 hK6
            have HS6 := Lib.hid hS'; clear hS' hS0
            refine planz_group [true, true, true, true, true, false, true, true, true, true, false, true] [0, 1, 2, 3, 4, 6, 7, 8, 9, 11] 8 (by dsimp only [sel]) (by rfl) rfl (by kernel_rfl) (by kernel_rfl) (by kernel_rfl) HS6.out ?_
            (repeat go_big_quiet_step (fail)); refine wpQuiet_nil ?_
            refine planz_one [false, false, false, false, false, true] 5 7 (by dsimp only [sel]) (by rfl) rfl (by kernel_rfl) ?_; intro K1 hK1; go_wp2_with fail
            obtain ⟨w4, hw4⟩ : ∃ w4, w4 = (w3.alloc (.cells #[] 5)).drew := ⟨_, rfl⟩
            have hd4 : w3.drew.heap.size = w3.heap.size := rfl
            rw [← hw4] at HM5 ⊢
            clear hw4
            have hl4 : later w3 (fun k => (Value.slice Af m2 cf2).ownBlock = some k) w4 := later_of (chg_of HM5.out.2.1)
            have HL4 := Lib.hid hl4; clear hl4
            refine ⟨by first | exact HL4.out | exact fun _ => HL4.out, ?_⟩
            refine planz_one [false, false, false, false, false, false, false, false, false, false, true] 10 6 (by dsimp only [sel]) (by rfl) rfl (by kernel_rfl) ?_; intro K1 hK1
            go_wp2_with (at_builtin; go_loud (refine wpList_app2 _ rfl (.tmp 87) (.tmp 91) 34 rfl w3.heap.size 5 i0 _ 1 1 Try.underlying34 HIB.out.1 HIB.out.2.1 HIB.out.2.2.1 HIB.out.2.2.2 rfl (by decide) _ 0 [] rfl HM5.out.1 Ab N cb (byteAt (y.v.data.take N)) rfl (by rw [Nat.mul_one]; exact HM5.out.2.2.1) (fun j _ => byteAt_one _ j) (by unfold maxLen; omega) (by omega) (by have := HM5.out.2.1.size; omega) ?_); intro v5 w5 hown hg hl; rw [List.nil_append, byteAt_cells_n _ N HM5.out.2.2.2, Nat.zero_add] at hown; have hb5 : Below w3.heap.size w3 w5 := HM5.out.2.1.grown hg HM5.out.2.1.size (fun g hg => (HM5.out.1.lt g hg).1); obtain ⟨A5, c5, hv5, -⟩ := own_at hown; subst hv5; have H5 := Lib.hid (And.intro hown hb5); clear hown hg hl hb5)
            have hl5 : later w3 (fun k => (Value.slice Af m2 cf2).ownBlock = some k) w5 := later_of (chg_of H5.out.2)
            have HL5 := Lib.hid hl5; clear hl5
            refine ⟨by first | exact HL5.out | exact fun _ => HL5.out, ?_⟩
            go_simp
            refine planz_group [false, false, false, false, false, false, false, false, false, false, false, false, true] [12] 5 (by dsimp only [sel]) (by rfl) rfl (by kernel_rfl) (by kernel_rfl) (by kernel_rfl) HL5.out ?_
            (repeat go_big_quiet_step (fail)); refine wpQuiet_nil ?_
            refine planz_one [false, false, false, false, false, false, false, false, false, false, false, false, false, true] 13 4 (by dsimp only [sel]) (by rfl) rfl (by kernel_rfl) ?_; intro K1 hK1; go_wp2_with fail
            have hl6 : later w3 (fun k => (Value.slice Af m2 cf2).ownBlock = some k) (w5.alloc (.cells #[.slice A5 N c5, .int .i64 (N : Int)] 89)) := later_of ((chg_of H5.out.2).trans (Chg.alloc _ _ _) fun _ _ q => q)
            have HL6 := Lib.hid hl6; clear hl6
            refine ⟨by first | exact HL6.out | exact fun _ => HL6.out, ?_⟩
            have hown6 : (w5.alloc (.cells #[.slice A5 N c5, .int .i64 (N : Int)] 89)).ownsRow 0 89 2 (.slice Af m2 cf2) m2 (rf.frow fs2) := ((chg_of (P := fun _ => False) H5.out.2).own H3.out.2.2.2.2.1 fun _ _ q => q).alloc _
            have hcel := cells_new w5 [.slice A5 N c5, .int .i64 (N : Int)] 89 w5.heap.size rfl
            have hone : ∀ x ∈ ([.slice A5 N c5, .int .i64 (N : Int)] : List Value), x.oneCell' = true := fun x hx => by
              simp only [List.mem_cons, List.not_mem_nil, or_false] at hx
              rcases hx with rfl | rfl <;> rfl
            have HO6 := Lib.hid (And.intro hown6 (And.intro hcel hone)); clear hown6 hcel hone
            have hm290 : m2 ≤ 100000 := by have := H3.out.2.2.2.1; omega
            refine planz_one [false, false, false, false, false, false, false, false, false, false, false, false, false, false, true] 14 3 (by dsimp only [sel]) (by rfl) rfl (by kernel_rfl) ?_; intro K1 hK1
            go_wp2_with (at_builtin; go_loud (refine wpList_append_own_at _ rfl (.tmp 86) (.tmp 95) 47 rfl 0 89 j0 _ 2 32 Try.underlying47 HIF.out.1 HIF.out.2.1 HIF.out.2.2.1 HIF.out.2.2.2 rfl (by decide) (.slice Af m2 cf2) m2 (rf.frow fs2) rfl HO6.out.1 ⟨w5.heap.size, 0, none⟩ 1 1 [.slice A5 N c5, .int .i64 (N : Int)] rfl rfl HO6.out.2.1 HO6.out.2.2 (by unfold maxLen; omega) (by omega) (by simp) ?_; intro v7 w7 h1 h2 _ h3; have H7 := Lib.hid (And.intro h1 (And.intro h2 h3)); clear h1 h2 h3))
            obtain ⟨A7, c7, hv7, -, -⟩ := own_at H7.out.1
            subst hv7
            have hc7 : Chg w3 w7 (fun k => (Value.slice Af m2 cf2).ownBlock = some k) := ((chg_of (P := fun k => (Value.slice Af m2 cf2).ownBlock = some k) H5.out.2).trans (Chg.alloc _ _ (fun _ => False)) fun _ _ q => q.elim).trans (Chg.grown H7.out.2.1) fun _ _ q => q
            have hbz7 := hc7.blk H3.out.1.blk H3.out.2.2.2.2.2.1
            have n1 : w7.cell? ⟨z, 1, none⟩ = some (.slice Af m2 cf2) := q1 ⟨w7, hc7⟩
            have z1 := hbz7.frozen 1
            have hzl7 := hbz7.lt
            have h3' := H3.out.1
            rw [H3.out.2.1] at h3'
            have hpf := RefAt.push_file (x := ⟨.slice A5 N c5, ⟨y.v.data.take N, N⟩⟩) h3' rfl rfl hc7 (by rw [← H3.out.2.2.1]; exact H7.out.1) (fun k hk => by
                rcases H7.out.2.2 with e | e
                · exact .inl (h3'.foot.2.1 k (by rw [← e]; exact hk))
                · rw [e] at hk
                  have hk : (w5.alloc (.cells #[.slice A5 N c5, .int .i64 (N : Int)] 89)).heap.size = k := by simpa using hk
                  have := H5.out.2.size
                  rw [World.size_alloc] at hk
                  exact .inr (by omega)) (by
                dsimp only
                rw [HM5.out.2.2.2]
                have h5a := (ownsRow_base H5.out.1 (Nat.zero_le _)).alloc (.cells #[.slice A5 N c5, .int .i64 (N : Int)] 89)
                exact (Chg.grown H7.out.2.1).own h5a fun k hk hk2 => rows_apart h5a HO6.out.1 (by decide) hk hk2) (fun k hk => .inr (H5.out.1.lt k hk).1)
            have HPF := Lib.hid hpf; clear hpf h3' hbz7
            have hl7 : later w3 (fun k => (Value.slice Af m2 cf2).ownBlock = some k) w7 := later_of hc7
            have HL7 := Lib.hid hl7; clear hl7 hc7
            refine ⟨by first | exact HL7.out | exact fun _ => HL7.out, ?_⟩
            go_simp
            refine planz_one [false, false, false, false, false, false, false, false, false, false, false, false, false, false, false, true] 15 2 (by dsimp only [sel]) (by rfl) rfl (by kernel_rfl) ?_; intro K1 hK1; go_wp2_with fail
            refine ⟨by first | exact HL7.out | exact fun _ => HL7.out, ?_⟩
            refine planz_one [false, false, false, false, false, false, false, false, false, false, false, false, false, false, false, false, true] 16 1 (by dsimp only [sel]) (by rfl) rfl (by kernel_rfl) ?_; intro K1 hK1; go_wp2_with fail
            refine ⟨by first | exact HL7.out | exact fun _ => HL7.out, ?_⟩
            refine planz_one [false, false, false, false, false, false, false, false, false, false, false, false, false, false, false, false, false, true] 17 0 (by dsimp only [sel]) (by rfl) rfl (by kernel_rfl) ?_; intro K1 hK1; go_wp2_with fail
            first | (refine ⟨fun h => absurd rfl h, ?_⟩; refine wp_planz_end (by kernel_rfl) ?_) | refine wp_planz_end (by kernel_rfl) ?_ | refine ⟨by kernel_rfl, ?_⟩
            obtain ⟨w8, hw8⟩ : ∃ w8, w8 = w7.setCell ⟨z, 1, none⟩ (.slice A7 (m2 + 1) c7) := ⟨_, rfl⟩
            rw [← hw8] at HPF ⊢
            clear hw8 q1 q4 n1 z1
            have hcl8 : Chg wl w8 (fun k => k = z) := (HR.out.2.1.trans HRD.out.2.1 fun _ _ q => q.elim).trans HPF.out.2 fun k hk q => q.elim (fun e => absurd hk (Nat.not_lt.2 (HOW.out.1.1 k (by rw [H3.out.2.1]; exact e)))) id
            obtain ⟨gl2, ol2, hgle, hgl8, e18, -⟩ := rf.NAt.at' (hcl8.at' HL.out.2.2.2.2.1 fun _ g o e hk => HL.out.2.2.2.2.2 g o e hk) HOW.out.2.1
            obtain ⟨rfl, rfl⟩ : gl = gl2 ∧ ol = ol2 := by simpa using hgle
            clear hgle
            dsimp only at e18
            have hra8 := HPF.out.1
            obtain ⟨An, cn, hnv2, -, -⟩ := own_at hra8.nrow
            have hm3 : (M.part (rd.crashAll M (l.take i) (ps.drop 1))).now.length = i := by
              have h2 := HR.out.2.2.2.2.2.2.2.2.2
              have h4 := HNL.out
              have h5 : (M.part (rd.crashAll M (l.take i) (ps.drop 1))).now.length = (rd.crashAll M (l.take i) (ps.drop 1)).names.length := rfl
              omega
            dsimp only at hnv2
            rw [hm3] at hnv2
            have hzN : ¬ (Value.slice An i cn).ownBlock = some z := by rw [← hnv2]; exact hra8.blk.not_row (by decide) hra8.nrow
            have hglN : ¬ (Value.slice An i cn).ownBlock = some gl := by rw [← hnv2]; exact fun h => absurd HOW.out.2.2 (Nat.not_lt.2 (HOW.out.1.2 gl h))
            have q1 : ∀ x : Later w8 (fun k => (Value.slice An i cn).ownBlock = some k), x.1.cell? ⟨z, 2, none⟩ = some (.slice An i cn) := fun x => (x.2.blk hra8.blk hzN).cell 2 (by rw [← hnv2]; rfl)
            have q5 : ∀ x : Later w8 (fun k => (Value.slice An i cn).ownBlock = some k), x.1.cell? ⟨z, 1, none⟩ = some (.slice A7 (m2 + 1) c7) := fun x => (x.2.blk hra8.blk hzN).cell 1 rfl
            have q6 : ∀ x : Later w8 (fun k => (Value.slice An i cn).ownBlock = some k), x.1.cell? ⟨gl, ol + i * 2, none⟩ = some (.string s) := fun x => x.2.cellP e18 hgl8 hglN
            have v5 : w8.drew.cell? ⟨z, 1, none⟩ = some (.slice A7 (m2 + 1) c7) := q5 ⟨w8.drew, (Chg.refl _ _).drew⟩
            have HX8 := Lib.hid (And.intro hra8 (And.intro hcl8 (And.intro hnv2 (And.intro hm3 hzN)))); clear hra8 hcl8 hnv2 hm3 hzN hglN e18 hgl8
            go_upto_region 18 with fail
            have hS8 : later w8 (fun k => (Value.slice An i cn).ownBlock = some k) w8.drew := later_of ((Chg.refl _ _).drew)
            refine wp_planz 21 (S := fun w0 => ∃ x : Later w8 (fun k => (Value.slice An i cn).ownBlock = some k), w0 = x.1) (by kernel_rfl) hS8 ?_
            intro hS' K7 hK7
            have HS7 := Lib.hid hS'; clear hS' hS8
            refine planz_group [true, true, true, true, true, true, true, true, true, true, true, true, true] [0, 1, 2, 3, 4, 5, 6, 7, 8, 9, 10, 11, 12] 9 (by dsimp only [sel]) (by rfl) rfl (by kernel_rfl) (by kernel_rfl) (by kernel_rfl) HS7.out ?_
            (repeat go_big_quiet_step (fail)); refine wpQuiet_nil ?_
            refine planz_one [false, false, false, false, false, false, false, false, false, false, false, false, false, true] 13 8 (by dsimp only [sel]) (by rfl) rfl (by kernel_rfl) ?_; intro K1 hK1; go_wp2_with fail
            refine ⟨by first | exact HS7.out | exact fun _ => HS7.out, ?_⟩
            refine planz_group [false, false, false, false, false, false, false, false, false, false, false, false, false, false, true, true, true] [14, 15, 16] 5 (by dsimp only [sel]) (by rfl) rfl (by kernel_rfl) (by kernel_rfl) (by kernel_rfl) HS7.out ?_
            (repeat go_big_quiet_step (fail)); refine wpQuiet_nil ?_
            refine planz_one [false, false, false, false, false, false, false, false, false, false, false, false, false, false, false, false, false, true] 17 4 (by dsimp only [sel]) (by rfl) rfl (by kernel_rfl) ?_; intro K1 hK1; go_wp2_with fail
            obtain ⟨w9, hw9⟩ : ∃ w9, w9 = (w8.alloc (.cells #[.string s, .int .i64 (m2 : Int)] 78)).drew := ⟨_, rfl⟩
            have hcel : ∀ j u, ([.string s, .int .i64 (m2 : Int)] : List Value)[j]? = some u → w9.cell? ((⟨w8.heap.size, 0, none⟩ : Addr).add j) = some u := by rw [hw9]; exact cells_new w8 _ _ _ rfl
            have hc9 : Chg w8 w9 (fun _ => False) := by rw [hw9]; exact (Chg.alloc _ _ _).drew
            have hs9 : w9.heap.size = w8.heap.size + 1 := by rw [hw9]; exact World.size_alloc _ _
            rw [← hw9]
            clear hw9
            have hl9 : later w8 (fun k => (Value.slice An i cn).ownBlock = some k) w9 := later_of (hc9.mono fun _ _ q => q.elim)
            have HL9 := Lib.hid hl9; clear hl9
            refine ⟨by first | exact HL9.out | exact fun _ => HL9.out, ?_⟩
            have h8' := HX8.out.1
            rw [HX8.out.2.2.1] at h8'
            have hown8 := h8'.nrow
            dsimp only at hown8
            rw [HX8.out.2.2.2.1] at hown8
            have hown9 := hc9.own hown8 fun _ _ q => q
            have hone : ∀ x ∈ ([.string s, .int .i64 (m2 : Int)] : List Value), x.oneCell' = true := fun x hx => by
              simp only [List.mem_cons, List.not_mem_nil, or_false] at hx
              rcases hx with rfl | rfl <;> rfl
            have HO9 := Lib.hid (And.intro hown9 (And.intro hcel (And.intro hone (And.intro h8' (And.intro hc9 hs9))))); clear hown9 hcel hone h8' hc9 hs9 hown8
            obtain ⟨k0, hk0, hk1, hk2, hk3⟩ := info_parts rf.infoName
            have HIN2 := Lib.hid (And.intro hk0 (And.intro hk1 (And.intro hk2 hk3))); clear hk0 hk1 hk2 hk3
            have hi90 : i ≤ 100000 := by omega
            refine planz_one [false, false, false, false, false, false, false, false, false, false, false, false, false, false, false, false, false, false, true] 18 3 (by dsimp only [sel]) (by rfl) rfl (by kernel_rfl) ?_; intro K1 hK1
            go_wp2_with (at_builtin; go_loud (refine wpList_append_own_at _ rfl (.tmp 103) (.tmp 116) 48 rfl 0 78 k0 _ 2 24 Try.underlying48 HIN2.out.1 HIN2.out.2.1 HIN2.out.2.2.1 HIN2.out.2.2.2 rfl (by decide) (.slice An i cn) i _ rfl HO9.out.1 ⟨w8.heap.size, 0, none⟩ 1 1 [.string s, .int .i64 (m2 : Int)] rfl rfl HO9.out.2.1 HO9.out.2.2.1 (by unfold maxLen; omega) (by omega) (by simp) ?_; intro v10 w10 h1 h2 _ h3; have H10 := Lib.hid (And.intro h1 (And.intro h2 h3)); clear h1 h2 h3))
            obtain ⟨A10, c10, hv10, -, -⟩ := own_at H10.out.1
            subst hv10
            have hc10 : Chg w8 w10 (fun k => (Value.slice An i cn).ownBlock = some k) := (HO9.out.2.2.2.2.1.mono fun _ _ q => q.elim).trans (Chg.grown H10.out.2.1) fun _ _ q => q
            have hbz10 := hc10.blk HO9.out.2.2.2.1.blk HX8.out.2.2.2.2
            have n2 : w10.cell? ⟨z, 2, none⟩ = some (.slice An i cn) := q1 ⟨w10, hc10⟩
            have z2 := hbz10.frozen 2
            have hzl10 := hbz10.lt
            have hpn := RefAt.push_name (x := (s, m2)) HO9.out.2.2.2.1 rfl rfl hc10 (by dsimp only; rw [HX8.out.2.2.2.1]; exact H10.out.1) (fun k hk => by
                rcases H10.out.2.2 with e | e
                · exact .inl (HO9.out.2.2.2.1.foot.2.2.1 k (by rw [← e]; exact hk))
                · rw [e] at hk
                  have hk : w9.heap.size = k := by simpa using hk
                  exact .inr (by have := HO9.out.2.2.2.2.2; omega))
            have hnew : ∀ k, (Value.slice A10 (i + 1) c10).ownBlock = some k → wl.heap.size ≤ k := fun k hk => by
                rcases H10.out.2.2 with e | e
                · exact HOW.out.1.2 k (by rw [HX8.out.2.2.1, ← e]; exact hk)
                · rw [e] at hk
                  have hk : w9.heap.size = k := by simpa using hk
                  have h1 := HO9.out.2.2.2.2.2
                  have h2 := HX8.out.2.1.size
                  omega
            have HPN := Lib.hid (And.intro hpn hnew); clear hpn hnew hbz10
            have hl10 : later w8 (fun k => (Value.slice An i cn).ownBlock = some k) w10 := later_of hc10
            have HL10 := Lib.hid hl10; clear hl10 hc10
            refine ⟨by first | exact HL10.out | exact fun _ => HL10.out, ?_⟩
            go_simp
            refine planz_one [false, false, false, false, false, false, false, false, false, false, false, false, false, false, false, false, false, false, false, true] 19 2 (by dsimp only [sel]) (by rfl) rfl (by kernel_rfl) ?_; intro K1 hK1; go_wp2_with fail
            refine ⟨by first | exact HL10.out | exact fun _ => HL10.out, ?_⟩
            refine planz_one [false, false, false, false, false, false, false, false, false, false, false, false, false, false, false, false, false, false, false, false, true] 20 1 (by dsimp only [sel]) (by rfl) rfl (by kernel_rfl) ?_; intro K1 hK1; go_wp2_with fail
            refine ⟨by first | exact HL10.out | exact fun _ => HL10.out, ?_⟩
            refine planz_one [false, false, false, false, false, false, false, false, false, false, false, false, false, false, false, false, false, false, false, false, false, true] 21 0 (by dsimp only [sel]) (by rfl) rfl (by kernel_rfl) ?_; intro K1 hK1; go_wp2_with fail
            first | (refine ⟨fun h => absurd rfl h, ?_⟩; refine wp_planz_end (by kernel_rfl) ?_) | refine wp_planz_end (by kernel_rfl) ?_ | refine ⟨by kernel_rfl, ?_⟩
            obtain ⟨w11, hw11⟩ : ∃ w11, w11 = w10.setCell ⟨z, 2, none⟩ (.slice A10 (i + 1) c10) := ⟨_, rfl⟩
            rw [← hw11] at HPN ⊢
            clear hw11 q1 q5 q6 n2 z2 v5
            go_wp2_with fail
            refine ⟨?_, ?_⟩
            · skip
              have hM : M.part (rd.crashAll M (l.take (i + 1)) (ps.drop 1)) = { { M.part (rd.crashAll M (l.take i) (ps.drop 1)) with files := (M.part (rd.crashAll M (l.take i) (ps.drop 1))).files ++ [(⟨y.v.data.take N, N⟩ : FileV)] } with now := (M.part (rd.crashAll M (l.take i) (ps.drop 1))).now ++ [(s, m2)] } := by
                have h2 := HR.out.2.2.2.2.2.2.2.2.1
                have h4 := HNL.out
                have h5 : (rd.crashAll M (l.take i) (ps.drop 1)).files.length = m2 := by rw [H3.out.2.2.2.1]; omega
                rw [HR.out.2.2.1, HKE.out]
                unfold RDisk.part
                dsimp only
                rw [h5, Int.toNat_natCast]
              refine ⟨i + 1, kx', fs2 ++ [⟨.slice A5 N c5, ⟨y.v.data.take N, N⟩⟩], .slice A7 (m2 + 1) c7, .slice A10 (i + 1) c10, by omega, by go_num, rfl, by omega, ?_, ?_, ?_, ?_, HPN.out.2⟩
              · rw [HR.out.2.2.1, HKE.out]
              · rw [hM]
                refine HPN.out.1.1.wide (fun k hk => ?_) fun _ hk => hk.2
                have h1 := HRD.out.2.1.size
                have h2 := HPF.out.2.size
                have h3 := hbw.size
                exact ⟨hk.1.elim (fun x => x.1.elim (fun y => y.1) fun y => by omega) fun x => by omega, hk.2⟩
              · exact HX8.out.2.1.trans HPN.out.1.2 fun k hk q => q.elim (fun e => absurd hk (Nat.not_lt.2 (HOW.out.1.2 k (by rw [HX8.out.2.2.1]; exact e)))) id
              · exact fun k hk => by
                  rcases H7.out.2.2 with e | e
                  · exact HOW.out.1.1 k (by rw [H3.out.2.1, ← e]; exact hk)
                  · rw [e] at hk
                    have hk : (w5.alloc (.cells #[.slice A5 N c5, .int .i64 (N : Int)] 89)).heap.size = k := by simpa using hk
                    rw [World.size_alloc] at hk
                    have h1 := H5.out.2.size
                    have h2 := HRD.out.2.1.size
                    have h3 := HR.out.2.1.size
                    omega
            · simp [intOf]; omega
        · obtain rfl : i = nl := by omega
          rw [show l.take i = l from by rw [HNL.out, List.take_length], ← HK.out.2.1, HL.out.1] at hra
          obtain ⟨An, cn, hnv2, -, -⟩ := own_at hra.nrow
          have c2 := hra.blk.cell 2 (v := nv2) rfl
          have z3 := hra.blk.cell 3 (v := .slice none 0 0) rfl
          have f3 := hra.blk.frozen 3
          have hbw := HNX.out wr hb
          have hset := hra.blk.set 3 nv2
          have hzl := hra.blk.lt
          have HRA := Lib.hid (And.intro hra (And.intro hset (And.intro hbw hnv2))); clear hra hset hbw
          rw [hnv2] at c2
          clear hnv2 hb hpk how
          go_wp2_with fail
          go_ret
          refine ⟨z, rfl, ?_, ?_⟩
          · have hc := Chg.setCell wr z 3 nv2
            have h1 := HRA.out.1.next (M' := M.crash ps) hc HRA.out.2.1 (.inl ⟨rfl, rfl, rfl⟩) (.inl ⟨rfl, rfl⟩) (.inr ⟨rfl, rfl⟩) (.inl ⟨rfl, rfl⟩)
            rw [← HRA.out.2.2.2]
            refine ⟨_, _, _, _, _, h1.wide (fun k hk => ⟨hk.1.elim (fun x => x.1) fun x => Nat.le_trans HRA.out.2.2.1.size x, hk.2⟩) fun _ hk => hk.2⟩
          · rw [← HRA.out.2.2.2]
            exact HRA.out.2.2.1.trans ((Chg.setCell wr z 3 nv2).below (B := w.heap.size) HRA.out.2.2.1.size fun k hk => by rw [hk, H1.out.2.2.2]; exact Nat.le_refl _)
end
end Go.Proofs.Ythffkbcjidbdaaa

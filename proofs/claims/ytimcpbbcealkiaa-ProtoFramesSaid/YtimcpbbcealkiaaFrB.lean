/- proto: the iterator of Frames (chapter 20). -/
import Derived.Sort.CutIn
import Derived.Test.YtimcpbbcealkiaaFrA
import Derived.Test.YtimcpbbcealkiaaEch
import Derived.Test.YtimcpbbcealkiaaQcY
namespace Go.Proofs.Ytimcpbbcealkiaa
open Go.RowKit
set_option maxRecDepth 20000
/-- What a round of a walk over frames leaves alone: rows of bytes. -/
def FKp (A B : World) : Prop := A.heap.size ≤ B.heap.size ∧ ∀ (k : Nat) (cs : Array Value) (fr : Nat × Nat), A.heap[k]? = some (.cells cs 5 fr) → B.heap[k]? = some (.cells cs 5 fr)
theorem FKp.trans {A B C : World} (h : FKp A B) (g : FKp B C) : FKp A C := ⟨Nat.le_trans h.1 g.1, fun k cs fr hk => g.2 k cs fr (h.2 k cs fr hk)⟩
theorem FKp.below {A B : World} (h : Below A.heap.size A B) : FKp A B := ⟨h.size, fun k _ _ hk => (h.block k (heap_in hk)).trans hk⟩
theorem FKp.put {W : World} {l : Nat} {o o' : Obj} (hl : W.heap[l]? = some o) (ho : o.isCells = false) : FKp W (W.putObj l o') := by
  refine ⟨by simp, fun k cs fr hk => ?_⟩
  by_cases e : k = l
  · subst e
    rw [hl] at hk
    cases hk
    cases ho
  · rw [World.putObj_heap_other e]
    exact hk
theorem FKp.grown {A B : World} {row : Option Nat} (hg : A.grownBy B row) (hr : ∀ r, row = some r → ∃ o : Obj, A.heap[r]? = some o ∧ o.isCells = false) : FKp A B :=
  ⟨hg.size, fun _ _ _ hk => (grown_cells hg hr ⟨_, hk, rfl⟩).trans hk⟩
theorem FKp.chg {A B : World} {P : Nat → Prop} (h : Chg A B P) (hp : ∀ k, P k → ∃ (cs : Array Value) (T : TypeId) (fr : Nat × Nat), A.heap[k]? = some (.cells cs T fr) ∧ T ≠ 5) : FKp A B :=
  ⟨h.size, fun k cs fr hk => (h.block k (heap_in hk) fun hh => by
    obtain ⟨cs', T', fr', h1, h2⟩ := hp k hh
    rw [hk] at h1
    simp at h1
    exact h2 h1.2.1.symm).trans hk⟩
theorem FKp.own {A B : World} (h : FKp A B) {base s n : Nat} {v : Value} {xs : List Value} (hr : A.ownsRow base 5 s v n xs) : B.ownsRow base 5 s v n xs := by
  refine ⟨hr.1, ?_⟩
  rcases hr.2 with h2 | ⟨g, cap, cur, h1, h3, h4, h5⟩
  · exact .inl h2
  · exact .inr ⟨g, cap, cur, h1, h3, h.2 g _ _ h4, h5⟩
/-- A value of the walk: a frame, and where a copy of it lies. -/
abbrev FX := List Nat × (Option Addr × Nat)
def frm.encs (x : FX) : Array Value := #[.slice x.2.1 x.1.length x.2.2]
def frm.R (x : FX) (W : World) : Prop := W.ownsRow 0 5 1 (.slice x.2.1 x.1.length x.2.2) x.1.length (u8s x.1)
def frm.S (S : List (List Nat)) (xs : List FX) (_ : World) : Prop := xs.map Prod.fst = S
def frm.Sp (S : List (List Nat)) (pre : List FX) (_ : World) : Prop := ∃ rest, pre.map Prod.fst ++ rest = S
def frm.Nx (S : List (List Nat)) (pre : List FX) (x : FX) : Prop := ∃ rest, pre.map Prod.fst ++ x.1 :: rest = S
def frm.Post (S : List (List Nat)) (J Jx : List FX → World → Prop) (e : Ending) (V : World) : Prop := (∃ v, e = .returned v) ∧ ((∃ xs, frm.S S xs V ∧ J xs V) ∨ (∃ pre, frm.Sp S pre V ∧ Jx pre V))
theorem frm.two_ways {e : Ending} {P Q : Prop} (h : (e = .returned (.bool true) ∧ P) ∨ (e = .returned (.bool false) ∧ Q)) : ∃ b, e = .returned (.bool b) ∧ ((b = true ∧ P) ∨ (b = false ∧ Q)) := by
  rcases h with ⟨rfl, h⟩ | ⟨rfl, h⟩
  · exact ⟨true, rfl, .inl ⟨rfl, h⟩⟩
  · exact ⟨false, rfl, .inr ⟨rfl, h⟩⟩
theorem frm.R_own (B : Nat) : OwnFrom B frm.R := fun _ _ _ _ h hg hr => (FKp.grown hg fun r e => (hr r e).2).own h
/-- A slice of a slice, whatever the world. -/
theorem frm.slice (A : Option Addr) (n c l h : Nat) (low high : Option Value) (hlo : (low = none ∧ l = 0) ∨ low = some (.int .i64 (l : Int))) (hhi : (high = none ∧ h = n) ∨ high = some (.int .i64 (h : Int))) (hlh : l ≤ h) (hhn : h ≤ n) (hnc : n ≤ c) :
    ∃ A', (∀ w : World, (Instr.sliceAt 23 (.slice A n c) low high none).run Try.prog w = .ok (.slice A' (h - l) (c - l)) w) ∧ ∀ (wx : World) (L : List Nat), L.length = n → At wx A n (byteAt L) → At wx A' (h - l) (byteAt ((L.drop l).take (h - l))) := by
  obtain ⟨i0, hi, hz0, hz1, hz2⟩ := info_parts infoByte
  have h1 : (0 : Int) ≤ (l : Int) ∧ (l : Int) ≤ (h : Int) := by omega
  have h2 : (0 : Int) ≤ (h : Int) ∧ (h : Int) ≤ (c : Int) := by omega
  refine ⟨if c = l then A else A.map fun a => a.add (l * 1), fun w => ?_, fun wx L hL hat => ?_⟩
  · rcases hlo with ⟨rfl, rfl⟩ | rfl <;> rcases hhi with ⟨rfl, rfl⟩ | rfl <;>
      simp [Instr.sliceAt, Instr.slice, Instr.sliceBounds, Instr.sliceBound, run_underlying Try.underlying23, sizeOf, typeInfo, hi, hz1, asIntOf, hlh, Nat.le_trans hhn hnc]
    all_goals (have hq := Nat.le_trans hhn hnc; intros; omega)
  · by_cases e : c = l
    · exact At.none0 (by omega)
    · rw [if_neg e, Nat.mul_one]
      exact (hat.byte_from l).byte_le (h - l) (by omega)
def fr.lenOf : Value → Nat
  | .slice _ n _ => n
  | _ => 0
/-- Where the walk stands: M is left, a piece of the walk's own copy. -/
structure FSt (A0 : Option Addr) (c0 : Nat) (L0 : List Nat) (A : Option Addr) (c : Nat) (M : List Nat) (W : World) : Prop where
  own : W.ownsRow 0 5 1 (.slice A0 L0.length c0) L0.length (u8s L0)
  pc : ∀ wx : World, At wx A0 L0.length (byteAt L0) → At wx A M.length (byteAt M)
  len : M.length ≤ c ∧ c ≤ maxLen
  byte : ∀ x ∈ M, x < 256
theorem FSt.keep {A0 : Option Addr} {c0 : Nat} {L0 : List Nat} {A : Option Addr} {c : Nat} {M : List Nat} {W V : World} (h : FSt A0 c0 L0 A c M W) (hk : FKp W V) : FSt A0 c0 L0 A c M V := ⟨hk.own h.own, h.pc, h.len, h.byte⟩
theorem FSt.at' {A0 : Option Addr} {c0 : Nat} {L0 : List Nat} {A : Option Addr} {c : Nat} {M : List Nat} {W : World} (h : FSt A0 c0 L0 A c M W) : At W A M.length (byteAt M) := by
  obtain ⟨A9, c9, e9, -, -, hat⟩ := own_bytes h.own
  obtain ⟨rfl, rfl⟩ : A0 = A9 ∧ c0 = c9 := by injection e9 with e1 e2 e3; exact ⟨e1, e3⟩
  exact h.pc W hat
/-- How long the next frame is said to be. -/
theorem frm.size_any (A : Option Addr) (c : Nat) (M : List Nat) (w : World) (hat : At w A M.length (byteAt M)) (h1 : M.length ≤ c) (h2 : c ≤ maxLen) (hb : ∀ x ∈ M, x < 256) (h4 : 4 ≤ M.length) :
    Calls Try.prog 39 #[.slice A M.length c] w fun e w' => ∃ r, e = .returned (.pointer (some ⟨r, 0, none⟩)) ∧ Below w.heap.size w w' ∧
      Calls Try.prog 40 #[.pointer (some ⟨r, 0, none⟩), .int .i64 4] w' fun e2 w2 => e2 = .returned (.int .i64 (wire.val (M.take 4) : Nat)) ∧ Below w.heap.size w w2 := by
  refine (wire.borrow_at A c M w hat h1 h2 hb).mono ?_
  rintro e w' ⟨r, rfl, hrd, hr, hb'⟩
  refine ⟨r, rfl, hb', ?_⟩
  have hf := rdq.fixed (fun _ => True) r M 0 4 w' ⟨A, c, hrd, fun _ _ => trivial⟩
  have hv : (rd.fixed M 0 4).1 = ((wire.val (M.take 4) : Nat) : Int) := by
    unfold rd.fixed
    rw [if_neg (by simp), if_neg (by unfold rd.fbad; omega)]
    rfl
  refine hf.mono ?_
  rintro e2 w2 ⟨rfl, -, hc⟩
  refine ⟨by rw [hv], hb'.trans (hc.below hb'.size fun k hk => by have hk : k = r := hk; omega)⟩
set_option maxHeartbeats 4000000 in
theorem frm.all1_in (n : Nat) (hn : 3 ≤ n) (l Bp : Nat) (A0 : Option Addr) (c0 : Nat) (L0 : List Nat) (J Jx : List FX → World → Prop) (W : World) (hL : L0.length ≤ 1000000)
    (hbox : W.cell? ⟨Bp, 0, none⟩ = some (.slice A0 L0.length c0)) (hown : W.ownsRow 0 5 1 (.slice A0 L0.length c0) L0.length (u8s L0)) (hby : ∀ x ∈ L0, x < 256) (hJ : AbidesFrom W.heap.size J)
    (hY : ∀ pre x V, J pre V → frm.R x V → frm.Nx (fr.all L0) pre x → YieldAt Fence.wide (n - 1) Try.prog l (frm.encs x) V fun e V' =>
      (e = .returned (.bool true) ∧ J (pre ++ [x]) V' ∧ FKp V V') ∨ (e = .returned (.bool false) ∧ Jx (pre ++ [x]) V' ∧ FKp V V')) (h0 : J [] W) :
    CallsIn Fence.wide n Try.prog 73 #[.func (.yield l) #[] #[], .pointer (some ⟨Bp, 0, none⟩)] W (frm.Post (fr.all L0) J Jx) := by
  refine callsIn_of_wp Try.func73 rfl trivial ?_ rfl
  simp only [Try.ntmps73, List.size_toArray, List.length_cons, List.length_nil, Nat.reduceAdd, Nat.reduceSub, Array.replicate_succ, Array.replicate_zero, List.push_toArray, List.append_toArray, List.nil_append, List.cons_append]
  have hJn : ∀ pre V V', J pre V → Below V.heap.size V V' → J pre V' := fun pre V V' h hb => hJ pre V V' none h (grown_by hb) fun r e => by cases e
  have HJN := Lib.hid hJn; clear hJn hJ
  have HY := Lib.hid hY; clear hY
  have hst : FSt A0 c0 L0 A0 c0 L0 W := ⟨hown, fun _ h => h, by
    obtain ⟨A9, c9, e9, h1, -, -⟩ := own_bytes hown
    obtain ⟨rfl, rfl⟩ : A0 = A9 ∧ c0 = c9 := by injection e9 with e1 e2 e3; exact ⟨e1, e3⟩
    exact ⟨h1, own_cap hown⟩, hby⟩
  have H0 := Lib.hid (And.intro h0 hst); clear h0 hst hown hby
  gi_wp2_with fail
  clear hbox
  gi_loopw [3, 4] (fun s3 _ wr => ∃ (pre : List FX) (A : Option Addr) (c : Nat) (M : List Nat), s3 = .slice A M.length c ∧ pre.map Prod.fst ++ fr.all M = fr.all L0 ∧ J pre wr ∧ FSt A0 c0 L0 A c M wr ∧ M.length ≤ L0.length) (fun s3 _ _ => fr.lenOf s3)
  case atStart => exact ⟨[], A0, c0, L0, rfl, rfl, H0.out.1, H0.out.2, Nat.le_refl _⟩
  case round =>
    obtain ⟨pre, A, c, M, rfl, hpre, hjj, hsrc, hML⟩ := hrel
    clear H0
    have hall := fr.all_step M
    have hat := hsrc.at'
    have hbm := hsrc.byte
    obtain ⟨hc1, hc2⟩ := hsrc.len
    obtain ⟨m, hm⟩ : ∃ m, m = M.length := ⟨_, rfl⟩
    rw [← hm] at hall hat hc1 hML ⊢
    have HP := Lib.hid (And.intro hpre (And.intro hjj (And.intro hsrc hm))); clear hpre hjj hsrc
    by_cases h4 : m < 4
    · have hend : pre.map Prod.fst = fr.all L0 := by
        have := HP.out.1
        rw [hall, if_pos h4, List.append_nil] at this
        exact this
      have HEND := Lib.hid hend; clear hend hall hat hbm
      have d0 : ¬ (4 : Int) ≤ (m : Int) := by omega
      have d1 : decide (4 ≤ m) = false := decide_eq_false (by omega)
      have d2 : decide ((4 : Int) ≤ (m : Int)) = false := decide_eq_false d0
      clear hm
      gi_wp2_with fail
      refine bodyPost_ret (results_none rfl _ _ _) rfl ?_
      exact ⟨⟨_, rfl⟩, .inl ⟨pre, HEND.out, HP.out.2.1⟩⟩
    have hsz := frm.size_any A c M wr (by rw [← hm]; exact hat) (by rw [← hm]; exact hc1) hc2 hbm (by omega)
    rw [← hm] at hsz
    rw [if_neg h4] at hall
    have d0 : (4 : Int) ≤ (m : Int) := by omega
    have d1 : decide (4 ≤ m) = true := decide_eq_true (by omega)
    have d2 : decide ((4 : Int) ≤ (m : Int)) = true := decide_eq_true d0
    obtain ⟨k, hk⟩ : ∃ k, k = wire.val (M.take 4) := ⟨_, rfl⟩
    rw [← hk] at hall hsz
    have hkb : k ≤ 4294967295 := by
      have h3 := wire.val_lt (M.take 4) fun x hx => hbm x (List.mem_of_mem_take hx)
      rw [List.length_take, Nat.min_eq_left (by omega)] at h3
      have : 256 ^ 4 = 4294967296 := by decide
      omega
    have HSZ := Lib.hid (And.intro hsz (And.intro hall (And.intro hat (And.intro hbm hm)))); clear hsz hall hat hbm hm hk
    gi_upto_region 3 with (first
      | (refine ⟨trivial, fun _ => by omega, ?_⟩; refine (callsIn_wide.2 HF.out.1).mono ?_; rintro e w3 ⟨rfl, hb3⟩; have HB3 := Lib.hid hb3; clear hb3)
      | (refine ⟨trivial, fun _ => by omega, ?_⟩; refine (callsIn_wide.2 HSZ.out.1).mono ?_; rintro e w2 ⟨r, rfl, hb2, hf2⟩; have HF := Lib.hid (And.intro hf2 hb2); clear hb2 hf2))
    have hj3 := HJN.out pre wr w3 HP.out.2.1 HB3.out
    have hsrc3 := HP.out.2.2.1.keep (FKp.below HB3.out)
    have H3 := Lib.hid (And.intro hj3 hsrc3); clear hj3 hsrc3
    have hstop : 131072 < k ∨ m < 4 + k → pre.map Prod.fst = fr.all L0 := fun hh => by
      have h1 := HP.out.1
      rw [HSZ.out.2.1, if_pos hh, List.append_nil] at h1
      exact h1
    have HSTOP := Lib.hid hstop; clear hstop
    by_cases hbig : 131072 < k
    · have e0 : (131072 : Int) < (k : Int) := by omega
      have e1 : decide (131072 < k) = true := decide_eq_true hbig
      have e2 : decide ((131072 : Int) < (k : Int)) = true := decide_eq_true e0
      have HEND := Lib.hid (HSTOP.out (.inl hbig)); clear hbig
      gi_wp2_with (refine ⟨fun _ _ => trivial, ?_⟩)
      refine bodyPost_ret (results_none rfl _ _ _) rfl ?_
      exact ⟨⟨_, rfl⟩, .inl ⟨pre, HEND.out, H3.out.1⟩⟩
    have e1 : decide (131072 < k) = false := decide_eq_false hbig
    have e2 : decide ((131072 : Int) < (k : Int)) = false := decide_eq_false (by omega)
    by_cases hsh : m < 4 + k
    · have f0 : (m : Int) - 4 < (k : Int) := by omega
      have f2 : decide ((m : Int) - 4 < (k : Int)) = true := decide_eq_true f0
      have HEND := Lib.hid (HSTOP.out (.inr hsh)); clear hsh hbig
      gi_wp2_with fail
      refine ⟨trivial, ?_⟩
      gi_wp2_with fail
      refine ⟨fun f hf => (by cases hf), ?_⟩
      gi_wp2_with fail
      refine bodyPost_ret (results_none rfl _ _ _) rfl ?_
      exact ⟨⟨_, rfl⟩, .inl ⟨pre, HEND.out, H3.out.1⟩⟩
    have f0 : ¬ (m : Int) - 4 < (k : Int) := by omega
    have f2 : decide ((m : Int) - 4 < (k : Int)) = false := decide_eq_false f0
    have hall := HSZ.out.2.1
    rw [if_neg (by omega)] at hall
    obtain ⟨f, hf⟩ : ∃ f, f = (M.drop 4).take k := ⟨_, rfl⟩
    rw [← hf] at hall
    have hfl : f.length = k := by rw [hf, List.length_take, List.length_drop, ← HSZ.out.2.2.2.2]; omega
    obtain ⟨A1, hs1, hat1⟩ := frm.slice A m c 4 (4 + k) (some (.int .i64 4)) (some (.int .i64 ((4 + k : Nat) : Int))) (.inr rfl) (.inr rfl) (by omega) (by omega) hc1
    obtain ⟨A2, hs2, hat2⟩ := frm.slice A m c (4 + k) m (some (.int .i64 ((4 + k : Nat) : Int))) none (.inr rfl) (.inl ⟨rfl, rfl⟩) (by omega) (Nat.le_refl _) hc1
    rw [Nat.add_sub_cancel_left] at hs1 hat1
    rw [show ((4 + k : Nat) : Int) = 4 + (k : Int) by omega] at hs1 hs2
    have hatf : At w3 A1 k (byteAt f) := by
      have h1 := hat1 w3 M HSZ.out.2.2.2.2.symm (HSZ.out.2.2.1.below HB3.out (Nat.le_refl _))
      rw [← hf] at h1
      exact h1
    have hcl := clone_any A1 k (c - 4) f w3 hfl (by omega) hatf
    have HCL := Lib.hid (And.intro hcl (And.intro hall (And.intro hfl (And.intro hat2 hf)))); clear hcl hall hfl hat1 hat2 hatf hf
    gi_wp2_with fail
    refine ⟨trivial, fun _ => by omega, ?_⟩
    refine (callsIn_wide.2 HCL.out.1).mono ?_
    rintro e w4 ⟨⟨v4, rfl, hv4⟩, hb4⟩
    obtain ⟨A4, c4, rfl, -, -⟩ := own_at hv4
    have hj4 := HJN.out pre w3 w4 H3.out.1 hb4
    have hsrc4 := H3.out.2.keep (FKp.below hb4)
    have hR4 : frm.R (f, (A4, c4)) w4 := by
      unfold frm.R
      dsimp only
      rw [HCL.out.2.2.1]
      exact ownsRow_base hv4 (Nat.zero_le _)
    have hnx : frm.Nx (fr.all L0) pre (f, (A4, c4)) := ⟨fr.all (M.drop (4 + k)), by
      have h1 := HP.out.1
      rw [HCL.out.2.1] at h1
      exact h1⟩
    have hy := HY.out pre (f, (A4, c4)) w4 hj4 hR4 hnx
    unfold frm.encs at hy
    dsimp only at hy
    rw [HCL.out.2.2.1] at hy
    obtain ⟨fn, tmps, assign, body, hyq, hRq⟩ := hy
    have HRQ := Lib.hid hRq; clear hRq
    have HK := Lib.hid (And.intro hsrc4 hnx); clear hsrc4 hnx hj4 hR4 hb4 hv4
    gi_wp2_with fail
    refine ⟨fun _ => by omega, HRQ.out.mono ?_⟩
    rintro e W5 hres
    obtain ⟨bv, hbv, hr2⟩ := frm.two_ways hres
    subst hbv
    clear hres hyq
    rcases hr2 with ⟨rfl, hJ3, hk3⟩ | ⟨rfl, hJx3, hk3⟩
    · have hsrc5 := HK.out.1.keep hk3
      have hdl : (M.drop (4 + k)).length = m - (4 + k) := by rw [List.length_drop, ← HSZ.out.2.2.2.2]
      have hst5 : FSt A0 c0 L0 A2 (c - (4 + k)) (M.drop (4 + k)) W5 := ⟨hsrc5.own, fun wx hx => by
        have h1 := HCL.out.2.2.2.1 wx M HSZ.out.2.2.2.2.symm (by rw [HSZ.out.2.2.2.2]; exact hsrc5.pc wx hx)
        rw [List.take_of_length_le (by rw [hdl]; exact Nat.le_refl _)] at h1
        rw [hdl]
        exact h1, by rw [hdl]; exact ⟨by omega, by omega⟩, fun x hx => HSZ.out.2.2.2.1 x (List.mem_of_mem_drop hx)⟩
      have HK3 := Lib.hid (And.intro hJ3 (And.intro hst5 hdl)); clear hJ3 hk3 hsrc5 hst5 hdl
      gi_wp2_with fail
      go_roundw
      case rel => exact ⟨pre ++ [(f, (A4, c4))], A2, c - (4 + k), M.drop (4 + k), by rw [HK3.out.2.2], by
        have h1 := HP.out.1
        rw [HCL.out.2.1] at h1
        rw [List.map_append, List.append_assoc]
        exact h1, HK3.out.1, HK3.out.2.1, by rw [HK3.out.2.2]; omega⟩
      case measure => simp [fr.lenOf]; omega
    · have HK3 := Lib.hid hJx3; clear hJx3 hk3
      gi_wp2
      refine bodyPost_ret (results_none rfl _ _ _) rfl ?_
      refine ⟨⟨_, rfl⟩, .inr ⟨pre ++ [(f, (A4, c4))], ⟨fr.all (M.drop (4 + k)), ?_⟩, HK3.out⟩⟩
      obtain ⟨rest, hrest⟩ := HK.out.2
      have h1 := HP.out.1
      rw [HCL.out.2.1] at h1
      rw [List.map_append, List.append_assoc]
      exact h1
theorem frm.frames_any (A : Option Addr) (c : Nat) (L : List Nat) (w : World) (hat : At w A L.length (byteAt L)) (hL : L.length ≤ 1000000) :
    Calls Try.prog 52 #[.slice A L.length c] w fun e w' => ∃ Bp A0 c0, e = .returned (.func (.func 73) #[] #[.pointer (some ⟨Bp, 0, none⟩)]) ∧ w'.cell? ⟨Bp, 0, none⟩ = some (.slice A0 L.length c0) ∧ w'.ownsRow 0 5 1 (.slice A0 L.length c0) L.length (u8s L) ∧ Bp < w'.heap.size ∧ Below w.heap.size w w' := by
  have hcl := clone_any A L.length c L w rfl (by omega) hat
  obtain ⟨n, hn⟩ : ∃ n, n = L.length := ⟨_, rfl⟩
  rw [← hn] at hcl ⊢
  clear hn hat hL
  go_enter Try.func52, Try.ntmps52
  go_wp2_with (go_at_call 58; refine hcl.mono ?_; rintro e w1 ⟨⟨v, rfl, h1⟩, h2⟩; obtain ⟨A0, c0, rfl, -, -⟩ := own_at h1; have H1 := Lib.hid (And.intro h1 h2); clear h1 h2)
  go_ret
  have hb := Blk.new w1 23 #[.slice A0 n c0]
  have hc := Chg.alloc w1 (.cells #[.slice A0 n c0] 23) (fun _ => False)
  exact ⟨w1.heap.size, A0, c0, rfl, hb.cell 0 rfl, ownsRow_base (hc.own H1.out.1 fun _ _ q => q) (Nat.zero_le _), hb.lt, H1.out.2.alloc H1.out.2.size _⟩
end Go.Proofs.Ytimcpbbcealkiaa

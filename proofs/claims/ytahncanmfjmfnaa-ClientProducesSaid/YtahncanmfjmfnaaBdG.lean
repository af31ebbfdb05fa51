/- What was written is decoded as it was. -/
import Derived.Test.YtahncanmfjmfnaaBtF
import Derived.Test.YtahncanmfjmfnaaRdA
import Derived.Test.YtahncanmfjmfnaaRdL
import Derived.Test.YtahncanmfjmfnaaClone
import Derived.Test.YtahncanmfjmfnaaPlanC
import Derived.Test.YtahncanmfjmfnaaLmA
import Derived.Deep.LoopGhost
import Derived.Deep.CutRange
import Derived.Test.YtahncanmfjmfnaaRdY
import Derived.Test.YtahncanmfjmfnaaRdB
import Derived.Test.YtahncanmfjmfnaaRdZ
import Derived.Test.YtahncanmfjmfnaaBwC
namespace Go.Proofs.Ytahncanmfjmfnaa
open Go.RowKit

/-- What number answers: the number, what is behind it, and whether there is one. -/
def dec.num (L : List Nat) : Int × List Nat × Bool :=
  match num.getL L with
  | none => (0, L, false)
  | some (u, k) => (num.zag u, L.drop k, true)
/-- A piece of a slice, wherever that lies. -/
def Piece (A : Option Addr) (L : List Nat) (A2 : Option Addr) (M : List Nat) : Prop := ∀ wx, At wx A L.length (byteAt L) → At wx A2 M.length (byteAt M)
theorem Piece.refl (A : Option Addr) (L : List Nat) : Piece A L A L := fun _ h => h
theorem Piece.trans {A B C : Option Addr} {L M N : List Nat} (h : Piece A L B M) (g : Piece B M C N) : Piece A L C N := fun wx q => g wx (h wx q)
theorem Piece.nil (A B : Option Addr) (L : List Nat) : Piece A L B [] := fun _ _ => At.none0 rfl
theorem Piece.drop (A : Option Addr) (L : List Nat) (k : Nat) : Piece A L (A.map fun a => a.add k) (L.drop k) := fun wx h => by
  rw [List.length_drop]
  exact h.byte_from k
theorem Piece.take (A : Option Addr) (L : List Nat) (k : Nat) (hk : k ≤ L.length) : Piece A L A (L.take k) := fun wx h => by
  rw [List.length_take, Nat.min_eq_left hk]
  exact h.byte_le k hk
theorem Piece.drop0 (A : Option Addr) (L : List Nat) (k : Nat) (h : L.length - k = 0) (B : Option Addr) : Piece A L B (L.drop k) := fun wx _ => At.none0 (by rw [List.length_drop]; exact h)

set_option maxRecDepth 20000 in
set_option maxHeartbeats 1000000 in
theorem bat.number_any (A : Option Addr) (c : Nat) (L : List Nat) (w : World) (hat : At w A L.length (byteAt L)) (hb : ∀ x ∈ L, x < 256) (hn : L.length ≤ c) (hc : c ≤ maxLen) :
    Calls Try.prog 83 #[.slice A L.length c] w fun e w' => (∃ A2 m c2, e = .returned (.tuple #[.int .i64 (dec.num L).1, .slice A2 m c2, .bool (dec.num L).2.2]) ∧ m = (dec.num L).2.1.length ∧ Piece A L A2 (dec.num L).2.1 ∧ m ≤ c2 ∧ c2 ≤ maxLen) ∧ Below w.heap.size w w' := by
  unfold maxLen at hc
  have hget := num.get_any A L.length c (fun j => L.getD j 0) w (by omega) hat (fun j hj => getD_lt hb j hj)
  rw [show num.get (fun j => L.getD j 0) L.length = num.getL L from rfl] at hget
  clear hat
  cases hg : num.getL L with
  | none =>
    have hd : dec.num L = (0, L, false) := by unfold dec.num; rw [hg]
    rw [hg] at hget
    rw [hd]
    dsimp only
    unfold num.res at hget
    have HGET := Lib.hid hget; clear hget hd hg
    have HP := Lib.hid (Piece.refl A L)
    have HP0 := Lib.hid (fun h : L.length - 0 = 0 => Piece.drop0 A L 0 h A)
    generalize L.length = n at *
    go_enter Try.func83, Try.ntmps83
    go_wp2_with fail
    refine HGET.out.mono ?_
    rintro e w' ⟨rfl, rfl⟩
    go_wp2_with fail
    go_quiet (fail)
    go_wp2
    go_ret3
    exact ⟨⟨A, n, c, rfl, rfl, HP.out, by omega, by unfold maxLen; omega⟩, bdrew (Below.refl _ _) _⟩
  | some p =>
    obtain ⟨u, k⟩ := p
    have hk := (num.getL_le hg).1
    have hd : dec.num L = (num.zag u, L.drop k, true) := by unfold dec.num; rw [hg]
    rw [hg] at hget
    rw [hd]
    dsimp only
    unfold num.res at hget
    dsimp only at hget
    have hlen : (L.drop k).length = L.length - k := List.length_drop
    rw [hlen]
    have HGET := Lib.hid hget; clear hget hd hg hlen
    have HP := Lib.hid (Piece.drop A L k)
    have HP0 := Lib.hid (Piece.drop0 A L k)
    generalize L.length = n at *
    generalize num.zag u = Z at *
    by_cases hck : c = k
    · subst hck
      go_enter Try.func83, Try.ntmps83
      go_wp2_with fail
      refine HGET.out.mono ?_
      rintro e w' ⟨rfl, rfl⟩
      go_wp2_with fail
      go_quiet (fail)
      go_wp2
      go_ret3
      exact ⟨⟨A, 0, 0, rfl, by omega, HP0.out (by omega) A, by omega, by unfold maxLen; omega⟩, bdrew (Below.refl _ _) _⟩
    · by_cases hc0 : c = 0
      · exfalso; omega
      · go_enter Try.func83, Try.ntmps83
        go_wp2_with fail
        refine HGET.out.mono ?_
        rintro e w' ⟨rfl, rfl⟩
        go_wp2_with fail
        go_quiet (fail)
        go_wp2
        go_ret3
        exact ⟨⟨_, n - k, c - k, rfl, rfl, HP.out, by omega, by unfold maxLen; omega⟩, bdrew (Below.refl _ _) _⟩

theorem results_tmp4 {fn : Func} {t u v z : Tmp} (h : fn.results = #[.tmp t, .tmp u, .tmp v, .tmp z]) (tmps : Array Value) (P : Program) (w : World) :
    (results fn tmps).run P w = .ok (.tuple #[tmps.getD t undef, tmps.getD u undef, tmps.getD v undef, tmps.getD z undef]) w := by
  simp [results, h]
/-- What field answers. -/
def dec.field (L : List Nat) : Option (Bool × List Nat × List Nat) :=
  if (dec.num L).2.2 = false ∨ (dec.num L).1 < -1 ∨ ((dec.num L).2.1.length : Int) < (dec.num L).1 then none else
  if (dec.num L).1 = -1 then some (false, [], (dec.num L).2.1) else
  some (true, (dec.num L).2.1.take (dec.num L).1.toNat, (dec.num L).2.1.drop (dec.num L).1.toNat)

set_option maxRecDepth 20000 in
set_option maxHeartbeats 2000000 in
theorem bat.dfield_any (A : Option Addr) (c : Nat) (L : List Nat) (w : World) (hat : At w A L.length (byteAt L)) (hb : ∀ x ∈ L, x < 256) (hn : L.length ≤ c) (hc : c ≤ maxLen) (hl : L.length ≤ 140737488351232) :
    Calls Try.prog 84 #[.slice A L.length c] w fun e w' => ((dec.field L = none ∧ e = .returned (.tuple #[.bool false, .slice none 0 0, .slice none 0 0, .bool false])) ∨
      (∃ has K R A2 c2 X m d, dec.field L = some (has, K, R) ∧ e = .returned (.tuple #[.bool has, .slice X K.length d, .slice A2 m c2, .bool true]) ∧ m = R.length ∧ Piece A L A2 R ∧ m ≤ c2 ∧ c2 ≤ maxLen ∧
        At w' X K.length (byteAt K) ∧ K.length ≤ d ∧ d ≤ maxLen ∧ (∀ g, (Value.slice X K.length d).ownBlock = some g → w.heap.size ≤ g ∧ g < w'.heap.size) ∧ (∀ x ∈ K, x < 256))) ∧ Below w.heap.size w w' := by
  have hnum := fun wx (h : Below w.heap.size w wx) => bat.number_any A c L wx (hat.below h (Nat.le_refl _)) hb hn hc
  have HNUM := Lib.hid hnum; clear hnum
  have HAT := Lib.hid hat; clear hat
  obtain ⟨N, hN⟩ : ∃ N, N = (dec.num L).1 := ⟨_, rfl⟩
  obtain ⟨R, hR⟩ : ∃ R, R = (dec.num L).2.1 := ⟨_, rfl⟩
  obtain ⟨K, hK⟩ : ∃ K, K = (dec.num L).2.2 := ⟨_, rfl⟩
  have hf : dec.field L = if K = false ∨ N < -1 ∨ (R.length : Int) < N then none else if N = -1 then some (false, [], R) else some (true, R.take N.toNat, R.drop N.toNat) := by rw [hN, hR, hK]; rfl
  rw [← hN, ← hR, ← hK] at HNUM
  have hrb : ∀ x ∈ R, x < 256 := by
    rw [hR]
    unfold dec.num
    cases num.getL L with
    | none => exact hb
    | some p => exact fun x hx => hb x (List.mem_of_mem_drop hx)
  have hrl : R.length ≤ L.length := by
    rw [hR]
    unfold dec.num
    cases num.getL L with
    | none => exact Nat.le_refl _
    | some p => show (L.drop p.2).length ≤ _; rw [List.length_drop]; omega
  clear hN hR hK
  have HF := Lib.hid hf; clear hf
  have HRB := Lib.hid hrb; clear hrb
  have HB := Lib.hid hb; clear hb
  go_enter Try.func84, Try.ntmps84
  go_wp2_with fail
  refine (HNUM.out w (Below.refl _ _)).mono ?_
  rintro e w1 ⟨⟨A2, m, c2, rfl, hm, hp, hm2, hc2⟩, hb1⟩
  have HP := Lib.hid hp; clear hp
  have HB1 := Lib.hid hb1; clear hb1
  have HM := Lib.hid hm
  have hml : m ≤ 140737488351232 := by omega
  clear hm hrl
  unfold maxLen at hc2
  by_cases hbad : K = false ∨ N < -1 ∨ (m : Int) < N
  · have hnone : dec.field L = none := by rw [HF.out, if_pos (by rw [← HM.out]; exact hbad)]
    have HNONE := Lib.hid hnone; clear hnone
    have hbad2 : K = false ∨ (K = true ∧ N < -1) ∨ (K = true ∧ ¬ N < -1 ∧ (m : Int) < N) := by
      cases K
      · exact .inl rfl
      · simp only [Bool.true_eq_false, false_or] at hbad
        by_cases h1 : N < -1
        · exact .inr (.inl ⟨rfl, h1⟩)
        · exact .inr (.inr ⟨rfl, h1, by omega⟩)
    clear hbad
    rcases hbad2 with rfl | ⟨rfl, h1⟩ | ⟨rfl, h1, h2⟩
    all_goals
      go_wp2
      refine bodyPost_ret (results_tmp4 rfl _ _ _) rfl ?_
      exact ⟨.inl ⟨HNONE.out, rfl⟩, HB1.out⟩
  · obtain rfl : K = true := by cases K <;> simp_all
    have h1 : ¬ N < -1 := by omega
    have h2 : ¬ (m : Int) < N := by omega
    clear hbad
    by_cases h3 : N = -1
    · subst h3
      have hsome : dec.field L = some (false, [], R) := by rw [HF.out, if_neg (by rw [← HM.out]; simp), if_pos rfl]
      have HSOME := Lib.hid hsome; clear hsome
      go_wp2
      refine bodyPost_ret (results_tmp4 rfl _ _ _) rfl ?_
      exact ⟨.inr ⟨false, [], R, A2, c2, none, m, 0, HSOME.out, rfl, HM.out, HP.out, hm2, by unfold maxLen; omega, At.none0 rfl, Nat.le_refl _, by unfold maxLen; omega, (fun g h => by cases h), (fun x h => by cases h)⟩, HB1.out⟩
    · obtain ⟨z, rfl⟩ : ∃ z : Nat, N = (z : Int) := ⟨N.toNat, by omega⟩
      have hsome : dec.field L = some (true, R.take z, R.drop z) := by rw [HF.out, if_neg (by rw [← HM.out]; simp; try omega), if_neg (by omega), Int.toNat_natCast]
      have HSOME := Lib.hid hsome; clear hsome HF
      have hd3 : ((z : Int) == -1) = false := by simp
      have hzm : z ≤ m := by omega
      have hat1 : At w1 A2 z (byteAt (R.take z)) := (HP.out w1 (HAT.out.below HB1.out (Nat.le_refl _))).byte_le z (by rw [← HM.out]; exact hzm)
      have htl : (R.take z).length = z := by rw [List.length_take, ← HM.out]; omega
      have hdl : m - z = (R.drop z).length := by rw [List.length_drop, ← HM.out]
      have HTL := Lib.hid htl; clear htl
      have HDL := Lib.hid hdl; clear hdl
      have HAT1 := Lib.hid hat1; clear hat1
      have hz8 : z ≤ 140737488351232 := by omega
      have hS0 : later w1 (fun _ => False) w1.drew := later_of ((Chg.refl _ _).drew)
      by_cases hcz : c2 = z
      · subst hcz
        obtain rfl : m = c2 := by omega
        have hpc : Piece A L A2 (R.drop m) := fun _ _ => At.none0 (by rw [← HDL.out]; omega)
        have HPC := Lib.hid hpc; clear hpc
        go_wp2_with fail
        refine wp_plan (S := fun w0 => ∃ x : Later w1 (fun _ => False), w0 = x.1) (by kernel_rfl) hS0 ?_
        intro hS K hK
        have HS := Lib.hid hS; clear hS hS0
        refine plan_group [true, true, true, false, true, true, true] [0, 1, 2, 4, 5, 6] 5 (by dsimp only [sel]) (by rfl) rfl (by kernel_rfl) (by kernel_rfl) HS.out ?_
        (repeat go_big_quiet_step (fail)); refine wpQuiet_nil ?_
        refine plan_one [false, false, false, true] 3 4 (by dsimp only [sel]) (by rfl) rfl (by kernel_rfl) ?_; intro K1 hK1; go_wp2_with fail
        refine (clone_any A2 m m (R.take m) _ HTL.out hz8 (HAT1.out.below (bdrew (Below.refl _ _) 1) (Nat.le_refl _))).mono ?_
        rintro e w2 ⟨⟨v, rfl, ho⟩, hb2⟩
        obtain ⟨X, d, rfl, hd1, -, hatx⟩ := own_bytes ho
        have hd2 : d ≤ maxLen := own_cap ho
        have hdb := ho.lt
        have HX := Lib.hid (And.intro hd1 (And.intro hd2 (And.intro hatx hdb)))
        have HB2 := Lib.hid (show Below w1.heap.size w1 w2 from (bdrew (Below.refl _ _) 1).trans hb2)
        clear ho hd1 hd2 hatx hb2 hdb
        go_wp2_with fail
        refine ⟨later_of (chg_of HB2.out), ?_⟩
        refine plan_group [false, false, false, false, false, false, false, true, true, true, true] [7, 8, 9, 10] 0 (by dsimp only [sel]) (by rfl) rfl (by kernel_rfl) (by kernel_rfl) (later_of (chg_of HB2.out)) ?_
        (repeat go_big_quiet_step (fail)); refine wpQuiet_nil ?_
        refine wp_plan_end (by kernel_rfl) ?_
        refine hK _ _ ?_
        go_wp2
        refine bodyPost_ret (results_tmp4 rfl _ _ _) rfl ?_
        refine ⟨.inr ⟨true, R.take m, R.drop m, A2, 0, X, 0, d, HSOME.out, ?_, ?_, HPC.out, Nat.le_refl _, by unfold maxLen; omega, ?_, ?_, HX.out.2.1, fun g hg => ?_, fun x hx => HRB.out x (List.mem_of_mem_take hx)⟩, HB1.out.trans (HB2.out.mono HB1.out.size)⟩
        · rw [HTL.out]; rfl
        · rw [← HDL.out]; omega
        · rw [HTL.out]; exact HX.out.2.2.1
        · rw [HTL.out]; exact HX.out.1
        · rw [HTL.out] at hg
          exact ⟨Nat.le_trans HB1.out.size (HX.out.2.2.2 g hg).1, (HX.out.2.2.2 g hg).2⟩
      · by_cases hc0 : c2 = 0
        · exfalso; omega
        · have hpc := Piece.trans HP.out (Piece.drop A2 R z)
          have HPC := Lib.hid hpc; clear hpc
          go_wp2_with fail
          refine wp_plan (S := fun w0 => ∃ x : Later w1 (fun _ => False), w0 = x.1) (by kernel_rfl) hS0 ?_
          intro hS K hK
          have HS := Lib.hid hS; clear hS hS0
          refine plan_group [true, true, true, false, true, true, true] [0, 1, 2, 4, 5, 6] 5 (by dsimp only [sel]) (by rfl) rfl (by kernel_rfl) (by kernel_rfl) HS.out ?_
          (repeat go_big_quiet_step (fail)); refine wpQuiet_nil ?_
          refine plan_one [false, false, false, true] 3 4 (by dsimp only [sel]) (by rfl) rfl (by kernel_rfl) ?_; intro K1 hK1; go_wp2_with fail
          refine (clone_any A2 z c2 (R.take z) _ HTL.out hz8 (HAT1.out.below (bdrew (Below.refl _ _) 1) (Nat.le_refl _))).mono ?_
          rintro e w2 ⟨⟨v, rfl, ho⟩, hb2⟩
          obtain ⟨X, d, rfl, hd1, -, hatx⟩ := own_bytes ho
          have hd2 : d ≤ maxLen := own_cap ho
          have hdb := ho.lt
          have HX := Lib.hid (And.intro hd1 (And.intro hd2 (And.intro hatx hdb)))
          have HB2 := Lib.hid (show Below w1.heap.size w1 w2 from (bdrew (Below.refl _ _) 1).trans hb2)
          clear ho hd1 hd2 hatx hb2 hdb
          go_wp2_with fail
          refine ⟨later_of (chg_of HB2.out), ?_⟩
          refine plan_group [false, false, false, false, false, false, false, true, true, true, true] [7, 8, 9, 10] 0 (by dsimp only [sel]) (by rfl) rfl (by kernel_rfl) (by kernel_rfl) (later_of (chg_of HB2.out)) ?_
          (repeat go_big_quiet_step (fail)); refine wpQuiet_nil ?_
          refine wp_plan_end (by kernel_rfl) ?_
          refine hK _ _ ?_
          go_wp2
          refine bodyPost_ret (results_tmp4 rfl _ _ _) rfl ?_
          refine ⟨.inr ⟨true, R.take z, R.drop z, A2.map (fun a => a.add z), c2 - z, X, m - z, d, HSOME.out, ?_, ?_, HPC.out, by omega, by unfold maxLen; omega, ?_, ?_, HX.out.2.1, fun g hg => ?_, fun x hx => HRB.out x (List.mem_of_mem_take hx)⟩, HB1.out.trans (HB2.out.mono HB1.out.size)⟩
          · rw [HTL.out]; rfl
          · exact HDL.out
          · rw [HTL.out]; exact HX.out.2.2.1
          · rw [HTL.out]; exact HX.out.1
          · rw [HTL.out] at hg
            exact ⟨Nat.le_trans HB1.out.size (HX.out.2.2.2 g hg).1, (HX.out.2.2.2 g hg).2⟩

/-- A key or a value in a block laid since, which is not the row's. -/
def KeyR (w : World) (B : Nat) (v kv : Value) (L : List Nat) : Prop := BytesV w kv L ∧ ∀ g, kv.ownBlock = some g → B ≤ g ∧ g < w.heap.size ∧ v.ownBlock ≠ some g
def CellsR (w : World) (B : Nat) (v : Value) (cs : List Value) (r : Rec) : Prop :=
  ∃ kv vv, cs = [.int .i64 r.off, .int .i64 r.time, .bool r.hasKey, kv, .bool r.hasVal, vv] ∧ KeyR w B v kv r.key ∧ KeyR w B v vv r.val ∧ i64ok r.off ∧ i64ok r.time
/-- A row of records, all of it laid since B. -/
def RowR (w : World) (B : Nat) (v : Value) (rs : List Rec) : Prop :=
  ∃ xs, w.ownsRow B 44 6 v rs.length xs ∧ ∀ (i : Nat) (r : Rec), rs[i]? = some r → CellsR w B v ((List.range 6).map fun j => xs.getD (i * 6 + j) undef) r

theorem KeyR.chg {w w' : World} {B : Nat} {v kv : Value} {L : List Nat} {P : Nat → Prop} (h : KeyR w B v kv L) (hc : Chg w w' P) (hp : ∀ g, kv.ownBlock = some g → g < w.heap.size → ¬ P g) : KeyR w' B v kv L := by
  obtain ⟨⟨A, c, rfl, h1, h2, h3, h4⟩, h5⟩ := h
  refine ⟨⟨A, c, rfl, hc.at' h1 fun h0 b off hb hh => ?_, h2, h3, h4⟩, fun g hg => ⟨(h5 g hg).1, Nat.lt_of_lt_of_le (h5 g hg).2.1 hc.size, (h5 g hg).2.2⟩⟩
  obtain ⟨b', off', e1, e2, -⟩ := h1 h0
  rw [hb] at e1
  obtain ⟨rfl, rfl⟩ : b = b' ∧ off = off' := by simpa using e1
  exact hp b (by rw [hb]; rfl) e2 hh
theorem RowR.chg {w w' : World} {B : Nat} {v : Value} {rs : List Rec} {P : Nat → Prop} (h : RowR w B v rs) (hc : Chg w w' P) (hp : ∀ g, B ≤ g → g < w.heap.size → ¬ P g) : RowR w' B v rs := by
  obtain ⟨xs, h1, h2⟩ := h
  refine ⟨xs, hc.own h1 fun k hk => hp k (h1.lt k hk).1 (h1.lt k hk).2, fun i r hr => ?_⟩
  obtain ⟨kv, vv, e, k1, k2, k3⟩ := h2 i r hr
  exact ⟨kv, vv, e, k1.chg hc fun g hg hl => hp g (k1.2 g hg).1 hl, k2.chg hc fun g hg hl => hp g (k2.2 g hg).1 hl, k3⟩
theorem RowR.below {w w' : World} {B : Nat} {v : Value} {rs : List Rec} (h : RowR w B v rs) (hb : Below w.heap.size w w') : RowR w' B v rs :=
  h.chg (chg_of (P := fun _ => False) hb) fun _ _ _ q => q
theorem RowR.nil (w : World) (B : Nat) : RowR w B (.slice none 0 0) [] := ⟨[], World.ownsRow_nil _ _ _ _, fun i r h => by cases h⟩
theorem RowR.recsV {w : World} {B : Nat} {v : Value} {rs : List Rec} (h : RowR w B v rs) : ∃ A c, v = .slice A rs.length c ∧ RecsV w (.slice A rs.length c) rs := by
  obtain ⟨xs, h1, h2⟩ := h
  obtain ⟨A, c, rfl, hc, hat⟩ := own_at h1
  refine ⟨A, c, rfl, A, c, _, rfl, hc, own_cap h1, hat, fun i r hr => ?_⟩
  obtain ⟨kv, vv, e, k1, k2, k3, k4⟩ := h2 i r hr
  exact ⟨kv, vv, e, k1.1, k2.1, k3, k4⟩
theorem RowR.up {w : World} {B B' : Nat} {v : Value} {rs : List Rec} (h : RowR w B v rs) (hb : B' ≤ B) : RowR w B' v rs := by
  obtain ⟨xs, h1, h2⟩ := h
  refine ⟨xs, ownsRow_base h1 hb, fun i r hr => ?_⟩
  obtain ⟨kv, vv, e, k1, k2, k3⟩ := h2 i r hr
  exact ⟨kv, vv, e, ⟨k1.1, fun g hg => ⟨Nat.le_trans hb (k1.2 g hg).1, (k1.2 g hg).2⟩⟩, ⟨k2.1, fun g hg => ⟨Nat.le_trans hb (k2.2 g hg).1, (k2.2 g hg).2⟩⟩, k3⟩

/-- One record more. -/
theorem RowR.append {w w' : World} {B : Nat} {v v' : Value} {rs : List Rec} {xs : List Value} {r : Rec} {kv vv : Value}
    (h2 : ∀ (i : Nat) (r : Rec), rs[i]? = some r → CellsR w B v ((List.range 6).map fun j => xs.getD (i * 6 + j) undef) r) (hl : xs.length = rs.length * 6)
    (hk : KeyR w B v kv r.key) (hv : KeyR w B v vv r.val) (ho : i64ok r.off) (ht : i64ok r.time)
    (hown : w'.ownsRow B 44 6 v' (rs.length + 1) (xs ++ [.int .i64 r.off, .int .i64 r.time, .bool r.hasKey, kv, .bool r.hasVal, vv])) (hg : w.grownBy w' v.ownBlock) (hlies : Lies w v v') : RowR w' B v' (rs ++ [r]) := by
  have hkey : ∀ {u : Value} {L : List Nat}, KeyR w B v u L → KeyR w' B v' u L := by
    intro u L q
    obtain ⟨⟨A, c, rfl, q1, q2, q3, q4⟩, q5⟩ := q
    refine ⟨⟨A, c, rfl, (Chg.grown hg).at' q1 fun _ b off e hh => (q5 b (by rw [e]; rfl)).2.2 hh, q2, q3, q4⟩, fun g hgg => ⟨(q5 g hgg).1, Nat.lt_of_lt_of_le (q5 g hgg).2.1 hg.size, ?_⟩⟩
    rcases hlies with e | e
    · rw [e]; exact (q5 g hgg).2.2
    · rw [e]
      intro hh
      have h1 : w.heap.size = g := by simpa using hh
      have := (q5 g hgg).2.1
      omega
  refine ⟨_, by rw [List.length_append]; exact hown, fun i x hx => ?_⟩
  by_cases hi : i < rs.length
  · rw [List.getElem?_append_left hi] at hx
    obtain ⟨k1, k2, e, g1, g2, g3⟩ := h2 i x hx
    refine ⟨k1, k2, ?_, hkey g1, hkey g2, g3⟩
    rw [← e]
    refine List.map_congr_left fun j hj => ?_
    have hj : j < 6 := by simpa using hj
    simp only [List.getD]
    rw [List.getElem?_append_left (by omega)]
  · have hi2 : i = rs.length := by
      have := (List.getElem?_eq_some_iff.1 hx).1
      rw [List.length_append] at this
      simp at this
      omega
    subst hi2
    obtain rfl : r = x := by simpa using hx
    refine ⟨kv, vv, ?_, hkey hk, hkey hv, ho, ht⟩
    simp only [List.range, List.range.loop, List.map_cons, List.map_nil, List.getD]
    rw [List.getElem?_append_right (by omega), List.getElem?_append_right (by omega), List.getElem?_append_right (by omega), List.getElem?_append_right (by omega), List.getElem?_append_right (by omega), List.getElem?_append_right (by omega)]
    simp [hl]

/-- One record of the bytes, and what is behind it. -/
def dec.rec (first base : Int) (L : List Nat) : Option (Rec × List Nat) :=
  if (dec.num L).2.2 = false ∨ (dec.num L).1 < 0 ∨ ((dec.num L).2.1.length : Int) < (dec.num L).1 then none else
  if (dec.num ((dec.num L).2.1.take (dec.num L).1.toNat)).2.2 = false then none else
  if (dec.num (dec.num ((dec.num L).2.1.take (dec.num L).1.toNat)).2.1).2.2 = false then none else
  match dec.field (dec.num (dec.num ((dec.num L).2.1.take (dec.num L).1.toNat)).2.1).2.1 with
  | none => none
  | some (hk, K, R1) =>
    match dec.field R1 with
    | none => none
    | some (hv, V, R2) =>
      if 0 < R2.length then none else
      some (⟨wrap64 (base + (dec.num (dec.num ((dec.num L).2.1.take (dec.num L).1.toNat)).2.1).1), wrap64 (first + (dec.num ((dec.num L).2.1.take (dec.num L).1.toNat)).1), hk, K, hv, V⟩, (dec.num L).2.1.drop (dec.num L).1.toNat)
def dec.recs (first base : Int) : Nat → List Nat → Option (List Rec × List Nat)
  | 0, L => some ([], L)
  | n + 1, L =>
    match dec.rec first base L with
    | none => none
    | some (r, R) => (dec.recs first base n R).map fun X => (r :: X.1, X.2)
/-- What decodeRecords decodes. -/
def dec.all (first base : Int) (n : Nat) (L : List Nat) : Option (List Rec) :=
  match dec.recs first base n L with
  | some (rs, []) => some rs
  | _ => none
theorem dec.recs_succ (first base : Int) (n : Nat) (L : List Nat) : dec.recs first base (n + 1) L = match dec.rec first base L with | none => none | some (r, R) => (dec.recs first base n R).map fun X => (r :: X.1, X.2) := rfl
theorem dec.all_of {first base : Int} {n : Nat} {L : List Nat} {rs : List Rec} {R : List Nat} (h : dec.recs first base n L = some (rs, R)) : dec.all first base n L = if R = [] then some rs else none := by
  unfold dec.all
  rw [h]
  cases R <;> rfl
theorem dec.all_none {first base : Int} {n : Nat} {L : List Nat} (h : dec.recs first base n L = none) : dec.all first base n L = none := by
  unfold dec.all
  rw [h]
/-- One record more is decoded, or the row is none. -/
theorem dec.step {first base : Int} {n g : Nat} {L Lk : List Nat} {rs : List Rec} (h : dec.recs first base n L = (dec.recs first base (g + 1) Lk).map fun X => (rs ++ X.1, X.2)) :
    (dec.rec first base Lk = none → dec.all first base n L = none) ∧ ∀ r R, dec.rec first base Lk = some (r, R) → dec.recs first base n L = (dec.recs first base g R).map fun X => ((rs ++ [r]) ++ X.1, X.2) := by
  rw [dec.recs_succ] at h
  refine ⟨fun h1 => dec.all_none ?_, fun r R h1 => ?_⟩
  · rw [h, h1]; rfl
  · rw [h, h1]
    show ((dec.recs first base g R).map _).map _ = _
    rw [Option.map_map]
    congr 1
    funext X
    simp
theorem dec.num_len (L : List Nat) : (dec.num L).2.1.length ≤ L.length := by
  unfold dec.num
  cases num.getL L with
  | none => exact Nat.le_refl _
  | some p => show (L.drop p.2).length ≤ _; rw [List.length_drop]; omega
theorem dec.num_byte {L : List Nat} (h : ∀ x ∈ L, x < 256) : ∀ x ∈ (dec.num L).2.1, x < 256 := by
  unfold dec.num
  cases num.getL L with
  | none => exact h
  | some p => exact fun x hx => h x (List.mem_of_mem_drop hx)
theorem dec.field_len {L : List Nat} {has : Bool} {K R : List Nat} (h : dec.field L = some (has, K, R)) : R.length ≤ L.length ∧ K.length ≤ L.length := by
  have hl := dec.num_len L
  unfold dec.field at h
  split at h
  · cases h
  · split at h
    · obtain ⟨-, rfl, rfl⟩ : false = has ∧ [] = K ∧ (dec.num L).2.1 = R := by simpa using h
      exact ⟨hl, Nat.zero_le _⟩
    · obtain ⟨-, rfl, rfl⟩ : true = has ∧ (dec.num L).2.1.take _ = K ∧ (dec.num L).2.1.drop _ = R := by simpa using h
      rw [List.length_drop, List.length_take]
      omega
theorem dec.field_byte {L : List Nat} {has : Bool} {K R : List Nat} (hb : ∀ x ∈ L, x < 256) (h : dec.field L = some (has, K, R)) : ∀ x ∈ R, x < 256 := by
  have hl := dec.num_byte hb
  unfold dec.field at h
  split at h
  · cases h
  · split at h
    · obtain ⟨-, -, rfl⟩ : false = has ∧ [] = K ∧ (dec.num L).2.1 = R := by simpa using h
      exact hl
    · obtain ⟨-, -, rfl⟩ : true = has ∧ (dec.num L).2.1.take _ = K ∧ (dec.num L).2.1.drop _ = R := by simpa using h
      exact fun x hx => hl x (List.mem_of_mem_drop hx)
theorem wrap_ok (n : Int) : i64ok (wrap64 n) := by
  unfold i64ok RowKit.wrap64
  omega
section
variable {first base : Int} {Lk R1 R2 R3 R4 R5 K V : List Nat} {z : Nat} {t o : Int} {hk hv : Bool}
theorem dec.rec1 (h : (dec.num Lk).2.2 = false ∨ (dec.num Lk).1 < 0 ∨ ((dec.num Lk).2.1.length : Int) < (dec.num Lk).1) : dec.rec first base Lk = none := by
  unfold dec.rec
  rw [if_pos h]
theorem dec.rec2 (d1 : dec.num Lk = ((z : Int), R1, true)) (hz : z ≤ R1.length) (h : (dec.num (R1.take z)).2.2 = false) : dec.rec first base Lk = none := by
  unfold dec.rec
  simp only [d1, Int.toNat_natCast]
  rw [if_neg (by simp; omega), if_pos h]
theorem dec.rec3 (d1 : dec.num Lk = ((z : Int), R1, true)) (hz : z ≤ R1.length) (d2 : dec.num (R1.take z) = (t, R2, true)) (h : (dec.num R2).2.2 = false) : dec.rec first base Lk = none := by
  unfold dec.rec
  simp only [d1, Int.toNat_natCast, d2]
  rw [if_neg (by simp; omega), if_neg (by simp), if_pos h]
theorem dec.rec4 (d1 : dec.num Lk = ((z : Int), R1, true)) (hz : z ≤ R1.length) (d2 : dec.num (R1.take z) = (t, R2, true)) (d3 : dec.num R2 = (o, R3, true)) (h : dec.field R3 = none) : dec.rec first base Lk = none := by
  unfold dec.rec
  simp only [d1, Int.toNat_natCast, d2, d3, h]
  rw [if_neg (by simp; omega), if_neg (by simp), if_neg (by simp)]
theorem dec.rec5 (d1 : dec.num Lk = ((z : Int), R1, true)) (hz : z ≤ R1.length) (d2 : dec.num (R1.take z) = (t, R2, true)) (d3 : dec.num R2 = (o, R3, true)) (f1 : dec.field R3 = some (hk, K, R4)) (h : dec.field R4 = none) : dec.rec first base Lk = none := by
  unfold dec.rec
  simp only [d1, Int.toNat_natCast, d2, d3, f1, h]
  rw [if_neg (by simp; omega), if_neg (by simp), if_neg (by simp)]
theorem dec.rec6 (d1 : dec.num Lk = ((z : Int), R1, true)) (hz : z ≤ R1.length) (d2 : dec.num (R1.take z) = (t, R2, true)) (d3 : dec.num R2 = (o, R3, true)) (f1 : dec.field R3 = some (hk, K, R4)) (f2 : dec.field R4 = some (hv, V, R5)) (h : 0 < R5.length) : dec.rec first base Lk = none := by
  unfold dec.rec
  simp only [d1, Int.toNat_natCast, d2, d3, f1, f2]
  rw [if_neg (by simp; omega), if_neg (by simp), if_neg (by simp), if_pos h]
theorem dec.rec7 (d1 : dec.num Lk = ((z : Int), R1, true)) (hz : z ≤ R1.length) (d2 : dec.num (R1.take z) = (t, R2, true)) (d3 : dec.num R2 = (o, R3, true)) (f1 : dec.field R3 = some (hk, K, R4)) (f2 : dec.field R4 = some (hv, V, R5)) (h : R5.length = 0) :
    dec.rec first base Lk = some (⟨wrap64 (base + o), wrap64 (first + t), hk, K, hv, V⟩, R1.drop z) := by
  unfold dec.rec
  simp only [d1, Int.toNat_natCast, d2, d3, f1, f2]
  rw [if_neg (by simp; omega), if_neg (by simp), if_neg (by simp), if_neg (by omega)]
end

set_option maxRecDepth 20000 in
set_option maxHeartbeats 4000000 in
theorem bat.drecords_any (A : Option Addr) (c n : Nat) (first base : Int) (L : List Nat) (w : World) (hat : At w A L.length (byteAt L)) (hb : ∀ x ∈ L, x < 256) (hn : L.length ≤ c) (hc : c ≤ maxLen) (hl : L.length ≤ 1000000) (hn1 : n ≤ 1000) :
    Calls Try.prog 82 #[.slice A L.length c, .int .i64 (n : Int), .int .i64 first, .int .i64 base] w fun e w' => (∃ v rs, RowR w' w.heap.size v rs ∧ ((dec.all first base n L = some rs ∧ e = .returned (.tuple #[v, .bool true])) ∨ (dec.all first base n L = none ∧ e = .returned (.tuple #[v, .bool false])))) ∧ Below w.heap.size w w' := by
  obtain ⟨i0, hi, hz0, hz1, hz2⟩ := info_parts bat.infoRec
  have HI := Lib.hid (And.intro hi (And.intro hz0 (And.intro hz1 hz2))); clear hi hz0 hz1 hz2
  have HAT := Lib.hid hat; clear hat
  have HB := Lib.hid hb; clear hb
  have hsum : ∀ (v : Value) (rs : List Rec) (w' : World) (ok : Bool), RowR w' w.heap.size v rs → Below w.heap.size w w' → ((dec.all first base n L = some rs ∧ ok = true) ∨ (dec.all first base n L = none ∧ ok = false)) →
      (∃ v2 rs, RowR w' w.heap.size v2 rs ∧ ((dec.all first base n L = some rs ∧ Ending.returned (.tuple #[v, .bool ok]) = .returned (.tuple #[v2, .bool true])) ∨ (dec.all first base n L = none ∧ Ending.returned (.tuple #[v, .bool ok]) = .returned (.tuple #[v2, .bool false])))) ∧ Below w.heap.size w w' := fun v rs w' ok h1 h2 h3 => by
    refine ⟨⟨v, rs, h1, ?_⟩, h2⟩
    rcases h3 with ⟨h4, rfl⟩ | ⟨h4, rfl⟩
    · exact .inl ⟨h4, rfl⟩
    · exact .inr ⟨h4, rfl⟩
  have HSUM := Lib.hid hsum; clear hsum
  unfold maxLen at hc
  go_enter Try.func82, Try.ntmps82
  go_wp2_with fail
  go_step3
  go_wp2_with fail
  go_step3
  go_wp2_with fail
  go_loopg [0, 10, 22] n (fun g s0 s10 s22 wx => ∃ (k : Nat) (rs : List Rec) (Lk : List Nat) (A1 : Option Addr) (m c1 : Nat), k + g = n ∧ s22 = .int .i64 (k : Int) ∧ s0 = .slice A1 m c1 ∧ m = Lk.length ∧ Piece A L A1 Lk ∧ m ≤ c1 ∧ c1 ≤ maxLen ∧ m ≤ 1000000 ∧ (∀ x ∈ Lk, x < 256) ∧
    RowR wx w.heap.size s10 rs ∧ rs.length = k ∧ dec.recs first base n L = (dec.recs first base g Lk).map (fun X => (rs ++ X.1, X.2)) ∧ Below w.heap.size w wx)
  case atStart => exact ⟨0, [], L, A, L.length, c, by omega, rfl, rfl, rfl, Piece.refl _ _, hn, by unfold maxLen; omega, hl, HB.out, RowR.nil _ _, rfl, by cases dec.recs first base n L <;> rfl, Below.refl _ _⟩
  case round =>
    obtain ⟨k, rs, Lk, A1, m, c1, hkg, rfl, rfl, hm, hpc, hm1, hc1, hml, hbk, hrow, hrl, hdec, hbw⟩ := hrel
    have HM := Lib.hid hm; clear hm
    have HPC := Lib.hid hpc; clear hpc
    have HBK := Lib.hid hbk; clear hbk
    have HRL := Lib.hid hrl; clear hrl
    have HROW := Lib.hid hrow; clear hrow
    have HBW := Lib.hid hbw; clear hbw
    unfold maxLen at hc1
    obtain ⟨Ar, cr, hv10, -⟩ := HROW.out.recsV
    rw [HRL.out] at hv10
    subst hv10
    cases gk with
    | zero =>
      obtain rfl : k = n := by omega
      have hall : dec.all first base k L = if Lk = [] then some rs else none := dec.all_of (R := Lk) (by rw [hdec]; simp [dec.recs])
      have HALL := Lib.hid hall; clear hall hdec
      by_cases h0 : m = 0
      · subst h0
        have hnil : Lk = [] := List.length_eq_zero_iff.1 HM.out.symm
        have HNIL := Lib.hid hnil; clear hnil
        go_wp2_with fail
        try rw [Exit.noGoto_ret]
        go_ret2
        exact HSUM.out _ rs _ true HROW.out HBW.out (.inl ⟨by rw [HALL.out, if_pos HNIL.out], rfl⟩)
      · have hd0 : ((m : Int) == 0) = false := by simp; omega
        have hnil : Lk ≠ [] := fun h => h0 (by rw [HM.out, h]; rfl)
        have HNIL := Lib.hid hnil; clear hnil
        go_wp2_with fail
        try rw [Exit.noGoto_ret]
        go_ret2
        exact HSUM.out _ rs _ false HROW.out HBW.out (.inr ⟨by rw [HALL.out, if_neg HNIL.out], rfl⟩)
    | succ g =>
      have hkn : k < n := by omega
      have hkd : ((k : Int) == (n : Int)) = false := by simp; omega
      obtain ⟨hbad, hgood⟩ := dec.step hdec
      clear hdec
      have HBAD := Lib.hid hbad; clear hbad
      have HGOOD := Lib.hid hgood; clear hgood
      have hlb := dec.num_byte HBK.out
      have hll := dec.num_len Lk
      obtain ⟨N1, R1, K1, hd1⟩ : ∃ x y z, dec.num Lk = (x, y, z) := ⟨_, _, _, rfl⟩
      have hnum := bat.number_any A1 c1 Lk wr (HPC.out wr (HAT.out.below HBW.out (Nat.le_refl _))) HBK.out (by rw [← HM.out]; exact hm1) (by unfold maxLen; omega)
      rw [← HM.out, hd1] at hnum
      rw [hd1] at hlb hll
      dsimp only at hnum hlb hll
      have HNUM := Lib.hid hnum; clear hnum
      have HR1B := Lib.hid hlb; clear hlb
      rw [← HM.out] at hll
      go_wp2_with fail
      refine HNUM.out.mono ?_
      rintro e w1 ⟨⟨A2, m2, c2, rfl, hm2, hpc2, hmc2, hc2⟩, hb1⟩
      have HM2 := Lib.hid hm2
      have hm2l : m2 ≤ m := by omega
      clear hm2 hll
      have HPC2 := Lib.hid (Piece.trans HPC.out hpc2); clear hpc2
      unfold maxLen at hc2
      have hrow1 := HROW.out.below hb1
      have HROW1 := Lib.hid hrow1; clear hrow1
      have HB1 := Lib.hid hb1
      have HBW1 := Lib.hid (HBW.out.trans (hb1.mono HBW.out.size)); clear hb1
      clear HNUM
      by_cases hbad1 : K1 = false ∨ N1 < 0 ∨ (m2 : Int) < N1
      · have hno := HBAD.out (dec.rec1 (by rw [hd1]; dsimp only; rw [← HM2.out]; exact hbad1))
        have HNO := Lib.hid hno; clear hno hd1
        have hb2 : K1 = false ∨ (K1 = true ∧ N1 < 0) ∨ (K1 = true ∧ ¬ N1 < 0 ∧ (m2 : Int) < N1) := by
          cases K1
          · exact .inl rfl
          · simp only [Bool.true_eq_false, false_or] at hbad1
            by_cases h1 : N1 < 0
            · exact .inr (.inl ⟨rfl, h1⟩)
            · exact .inr (.inr ⟨rfl, h1, by omega⟩)
        clear hbad1
        rcases hb2 with rfl | ⟨rfl, h1⟩ | ⟨rfl, h1, h2⟩
        all_goals
          go_wp2_with fail
          try rw [Exit.noGoto_ret]
          go_ret2
          exact HSUM.out _ rs _ false HROW1.out HBW1.out (.inr ⟨HNO.out, rfl⟩)
      · obtain rfl : K1 = true := by
          cases K1 with
          | false => exact absurd (Or.inl rfl) hbad1
          | true => rfl
        obtain ⟨z, rfl⟩ : ∃ z : Nat, N1 = (z : Int) := ⟨N1.toNat, by omega⟩
        have hz1 : ¬ (z : Int) < 0 := by omega
        have hz2 : ¬ (m2 : Int) < (z : Int) := by omega
        have hzm : z ≤ m2 := by omega
        clear hbad1
        have HD1 := Lib.hid (And.intro hd1 (show z ≤ R1.length by rw [← HM2.out]; exact hzm)); clear hd1
        go_upto_region 7 with fail
        go_cut [0] from 45 to 47 (fun s0 wx => (∃ Ap cp, s0 = .slice Ap (m2 - z) cp ∧ Piece A2 R1 Ap (R1.drop z) ∧ m2 - z ≤ cp ∧ cp ≤ maxLen) ∧ wx = w1)
        case first =>
          by_cases hcz : c2 = z
          · subst hcz
            obtain rfl : m2 = c2 := by omega
            go_wp2_with fail
            go_meet
            case rel => exact ⟨⟨A2, 0, by simp, fun _ _ => At.none0 (by rw [List.length_drop, ← HM2.out]; omega), by omega, by unfold maxLen; omega⟩, rfl⟩
          · by_cases hc0 : c2 = 0
            · exfalso; omega
            · go_wp2_with fail
              go_meet
              case rel => exact ⟨⟨_, c2 - z, rfl, Piece.drop A2 R1 z, by omega, by unfold maxLen; omega⟩, rfl⟩
        case rest =>
          obtain ⟨⟨Ap, cp, rfl, hpp, hpp1, hpp2⟩, rfl⟩ := hcut
          have HPP := Lib.hid (Piece.trans HPC2.out hpp); clear hpp
          unfold maxLen at hpp2
          go_wp2_with fail
          obtain ⟨w3, hw3⟩ : ∃ w3, w3 = (wc.alloc (.cells #[.int .i64 base, .int .i64 first, .bool false, .slice none 0 0, .bool false, .slice none 0 0] 44)).alloc (.cells #[.pointer (some ⟨wc.heap.size, 1, none⟩), .pointer (some ⟨wc.heap.size, 0, none⟩)] 151) := ⟨_, rfl⟩
          rw [← hw3]
          have hb3 : Below wc.heap.size wc w3 := by rw [hw3]; exact ((Below.refl _ wc).alloc (Nat.le_refl _) _).alloc (by simp) _
          have hk15 : Blk w3 wc.heap.size 44 #[.int .i64 base, .int .i64 first, .bool false, .slice none 0 0, .bool false, .slice none 0 0] := by rw [hw3]; exact (Chg.alloc _ _ (fun _ => False)).blk (Blk.new _ _ _) id
          have hk53 : Blk w3 (wc.heap.size + 1) 151 #[.pointer (some ⟨wc.heap.size, 1, none⟩), .pointer (some ⟨wc.heap.size, 0, none⟩)] := by
            rw [hw3]
            have := Blk.new (wc.alloc (.cells #[.int .i64 base, .int .i64 first, .bool false, .slice none 0 0, .bool false, .slice none 0 0] 44)) 151 #[.pointer (some ⟨wc.heap.size, 1, none⟩), .pointer (some ⟨wc.heap.size, 0, none⟩)]
            rwa [World.size_alloc] at this
          clear hw3
          have HB3 := Lib.hid hb3; clear hb3
          have HK15 := Lib.hid hk15; clear hk15
          have HK53 := Lib.hid hk53; clear hk53
          have hpin : At wc A2 R1.length (byteAt R1) := (HPC2.out wc (HAT.out.below HBW1.out (Nat.le_refl _)))
          have HPIN := Lib.hid hpin; clear hpin
          have HZM := Lib.hid hzm; clear hzm hz1 hz2
          generalize decide (m2 < z) = d7
          generalize decide ((z : Int) < 0) = d8
          go_loopg [14, 55] 2 (fun g s14 s55 wx => ∃ (i : Nat) (Bk : List Nat) (Ab : Option Addr) (mb cb : Nat) (x0 x1 : Int), i + g = 2 ∧ s55 = .int .i64 (i : Int) ∧ s14 = .slice Ab mb cb ∧ mb = Bk.length ∧ Piece A2 R1 Ab Bk ∧ mb ≤ cb ∧ cb ≤ maxLen ∧ mb ≤ 1000000 ∧ (∀ x ∈ Bk, x < 256) ∧ Below wc.heap.size wc wx ∧
            Blk wx (wc.heap.size + 1) 151 #[.pointer (some ⟨wc.heap.size, 1, none⟩), .pointer (some ⟨wc.heap.size, 0, none⟩)] ∧ Blk wx wc.heap.size 44 #[.int .i64 x0, .int .i64 x1, .bool false, .slice none 0 0, .bool false, .slice none 0 0] ∧
            ((i = 0 ∧ Bk = R1.take z ∧ base = x0 ∧ first = x1) ∨ (i = 1 ∧ ∃ t, dec.num (R1.take z) = (t, Bk, true) ∧ base = x0 ∧ x1 = wrap64 (first + t)) ∨
              (i = 2 ∧ ∃ t R2 o, dec.num (R1.take z) = (t, R2, true) ∧ dec.num R2 = (o, Bk, true) ∧ x0 = wrap64 (base + o) ∧ x1 = wrap64 (first + t))))
          case atStart => exact ⟨0, R1.take z, A2, z, c2, base, first, rfl, rfl, rfl, by rw [List.length_take, ← HM2.out]; have := HZM.out; omega, Piece.take A2 R1 z HD1.out.2, by have := HZM.out; omega, by unfold maxLen; omega, by have := HZM.out; omega, fun x hx => HR1B.out x (List.mem_of_mem_take hx), HB3.out, HK53.out, HK15.out, .inl ⟨rfl, rfl, rfl, rfl⟩⟩
          case round =>
            obtain ⟨i, Bk, Ab, mb, cb, x0, x1, hig, rfl, rfl, hmb, hpb, hmb1, hcb, hmbl, hbb, hbx, hk53, hk15, hst⟩ := hrel
            have HMB := Lib.hid hmb; clear hmb
            have HPB := Lib.hid hpb; clear hpb
            have HBB := Lib.hid hbb; clear hbb
            have HBX := Lib.hid hbx; clear hbx
            have HK53R := Lib.hid hk53
            have HK15R := Lib.hid hk15
            unfold maxLen at hcb
            have hlt15 : wc.heap.size < wr.heap.size := hk15.lt
            have hlt53 : wc.heap.size + 1 < wr.heap.size := hk53.lt
            have hbwr : Below w.heap.size w wr := HBW1.out.trans (HBX.out.mono HBW1.out.size)
            have HBWR := Lib.hid hbwr; clear hbwr
            have hrowr := HROW1.out.below HBX.out
            have HROWR := Lib.hid hrowr; clear hrowr
            have hnum2 := bat.number_any Ab cb Bk wr (HPB.out wr (HPIN.out.below HBX.out (Nat.le_refl _))) HBB.out (by rw [← HMB.out]; exact hmb1) (by unfold maxLen; omega)
            obtain ⟨N2, R2, K2, hd2⟩ : ∃ x y z, dec.num Bk = (x, y, z) := ⟨_, _, _, rfl⟩
            have hlb2 := dec.num_byte HBB.out
            have hll2 := dec.num_len Bk
            rw [← HMB.out, hd2] at hnum2
            rw [hd2] at hlb2 hll2
            dsimp only at hnum2 hlb2 hll2
            rw [← HMB.out] at hll2
            have HNUM2 := Lib.hid hnum2; clear hnum2
            have HLB2 := Lib.hid hlb2; clear hlb2
            rcases hst with ⟨rfl, rfl, rfl, rfl⟩ | ⟨rfl, t, hdt, rfl, rfl⟩ | ⟨rfl, t, R2', o, hdt, hdo, rfl, rfl⟩
            · obtain rfl : gk = 2 := by omega
              have p0 : wr.cell? ⟨wc.heap.size + 1, 0, none⟩ = some (.pointer (some ⟨wc.heap.size, 1, none⟩)) := hk53.cell 0 rfl
              clear hk53 hk15
              go_wp2_with fail
              refine HNUM2.out.mono ?_
              rintro e w4 ⟨⟨A4, m4, c4, rfl, hm4, hpc4, hmc4, hc4⟩, hb4⟩
              have HM4 := Lib.hid hm4
              have hm4l : m4 ≤ 1000000 := by omega
              clear hm4 hll2
              have HPC4 := Lib.hid (Piece.trans HPB.out hpc4); clear hpc4
              unfold maxLen at hc4
              have hk15 := (chg_of (P := fun _ => False) hb4).blk HK15R.out id
              have hk53 := (chg_of (P := fun _ => False) hb4).blk HK53R.out id
              have HK15Q := Lib.hid hk15
              have HK53Q := Lib.hid hk53
              have e1 : w4.cell? ⟨wc.heap.size, 1, none⟩ = some (.int .i64 first) := hk15.cell 1 rfl
              have f1 : w4.frozen? ⟨wc.heap.size, 1, none⟩ = false := hk15.frozen 1
              clear hk15 hk53
              have HROW4 := Lib.hid (HROWR.out.below hb4)
              have HBX4 := Lib.hid (HBX.out.trans (hb4.mono HBX.out.size))
              have HBW4 := Lib.hid (HBWR.out.trans (hb4.mono HBWR.out.size)); clear hb4
              cases K2 with
              | false =>
                have hno := HBAD.out (dec.rec2 HD1.out.1 HD1.out.2 (by rw [hd2]))
                have HNO := Lib.hid hno; clear hno hd2
                go_wp2_with fail
                try rw [Exit.noGoto_ret]
                go_ret2
                exact HSUM.out _ rs _ false HROW4.out HBW4.out (.inr ⟨HNO.out, rfl⟩)
              | true =>
                have HD2 := Lib.hid hd2; clear hd2
                go_wp2_with fail
                go_roundg 1
                case measure => omega
                case rel =>
                  have hch := Chg.setCell w4 wc.heap.size 1 (.int .i64 (wrap64 (first + N2)))
                  exact ⟨1, R2, A4, m4, c4, base, wrap64 (first + N2), rfl, by go_num, rfl, HM4.out, HPC4.out, hmc4, by unfold maxLen; omega, hm4l, HLB2.out,
                    HBX4.out.trans (hch.below HBX4.out.size fun k hk => by have hk : k = wc.heap.size := hk; omega), hch.blk HK53Q.out (fun h => by have h : wc.heap.size + 1 = wc.heap.size := h; omega), HK15Q.out.set 1 _, .inr (.inl ⟨rfl, N2, HD2.out, rfl, rfl⟩)⟩
            · obtain rfl : gk = 1 := by omega
              have HDT := Lib.hid hdt; clear hdt
              have p0 : wr.cell? ⟨wc.heap.size + 1, 1, none⟩ = some (.pointer (some ⟨wc.heap.size, 0, none⟩)) := hk53.cell 1 rfl
              clear hk53 hk15
              go_wp2_with fail
              refine HNUM2.out.mono ?_
              rintro e w4 ⟨⟨A4, m4, c4, rfl, hm4, hpc4, hmc4, hc4⟩, hb4⟩
              have HM4 := Lib.hid hm4
              have hm4l : m4 ≤ 1000000 := by omega
              clear hm4 hll2
              have HPC4 := Lib.hid (Piece.trans HPB.out hpc4); clear hpc4
              unfold maxLen at hc4
              have hk15 := (chg_of (P := fun _ => False) hb4).blk HK15R.out id
              have hk53 := (chg_of (P := fun _ => False) hb4).blk HK53R.out id
              have HK15Q := Lib.hid hk15
              have HK53Q := Lib.hid hk53
              have e1 : w4.cell? ⟨wc.heap.size, 0, none⟩ = some (.int .i64 base) := hk15.cell 0 rfl
              have f1 : w4.frozen? ⟨wc.heap.size, 0, none⟩ = false := hk15.frozen 0
              clear hk15 hk53
              have HROW4 := Lib.hid (HROWR.out.below hb4)
              have HBX4 := Lib.hid (HBX.out.trans (hb4.mono HBX.out.size))
              have HBW4 := Lib.hid (HBWR.out.trans (hb4.mono HBWR.out.size)); clear hb4
              cases K2 with
              | false =>
                have hno := HBAD.out (dec.rec3 HD1.out.1 HD1.out.2 HDT.out (by rw [hd2]))
                have HNO := Lib.hid hno; clear hno hd2
                go_wp2_with fail
                try rw [Exit.noGoto_ret]
                go_ret2
                exact HSUM.out _ rs _ false HROW4.out HBW4.out (.inr ⟨HNO.out, rfl⟩)
              | true =>
                have HD2 := Lib.hid hd2; clear hd2
                go_wp2_with fail
                go_roundg 0
                case measure => omega
                case rel =>
                  have hch := Chg.setCell w4 wc.heap.size 0 (.int .i64 (wrap64 (base + N2)))
                  exact ⟨2, R2, A4, m4, c4, wrap64 (base + N2), wrap64 (first + t), rfl, by go_num, rfl, HM4.out, HPC4.out, hmc4, by unfold maxLen; omega, hm4l, HLB2.out,
                    HBX4.out.trans (hch.below HBX4.out.size fun k hk => by have hk : k = wc.heap.size := hk; omega), hch.blk HK53Q.out (fun h => by have h : wc.heap.size + 1 = wc.heap.size := h; omega), HK15Q.out.set 0 _, .inr (.inr ⟨rfl, t, Bk, N2, HDT.out, HD2.out, rfl, rfl⟩)⟩
            · obtain rfl : gk = 0 := by omega
              have HDT := Lib.hid (And.intro hdt hdo); clear hdt hdo hd2 hll2 HNUM2 HLB2 HK53R hk53 hk15
              have hfld := fun wx (h : Below wr.heap.size wr wx) => bat.dfield_any Ab cb Bk wx ((HPB.out wr (HPIN.out.below HBX.out (Nat.le_refl _))).below h (Nat.le_refl _)) HBB.out (by rw [← HMB.out]; exact hmb1) (by unfold maxLen; omega) (by rw [← HMB.out]; omega)
              rw [← HMB.out] at hfld
              have HFLD := Lib.hid hfld; clear hfld
              obtain ⟨X0, hX0⟩ : ∃ X0, X0 = wrap64 (base + o) := ⟨_, rfl⟩
              obtain ⟨X1, hX1⟩ : ∃ X1, X1 = wrap64 (first + t) := ⟨_, rfl⟩
              rw [← hX0, ← hX1] at HK15R
              have HX := Lib.hid (And.intro hX0 hX1); clear hX0 hX1
              go_wp2_with fail
              refine (HFLD.out wr (Below.refl _ _)).mono ?_
              rintro e w4 ⟨hres, hb4⟩
              have HB4 := Lib.hid hb4
              have HBX4 := Lib.hid (HBX.out.trans (hb4.mono HBX.out.size)); clear hb4
              have HK4 := Lib.hid ((chg_of (P := fun _ => False) HB4.out).blk HK15R.out id)
              have e2 : w4.cell? ⟨wc.heap.size, 2, none⟩ = some (.bool false) := HK4.out.cell 2 rfl
              have f2 : w4.frozen? ⟨wc.heap.size, 2, none⟩ = false := HK4.out.frozen 2
              have e3 : w4.cell? ⟨wc.heap.size, 3, none⟩ = some (.slice none 0 0) := HK4.out.cell 3 rfl
              have f3 : w4.frozen? ⟨wc.heap.size, 3, none⟩ = false := HK4.out.frozen 3
              have hset : ∀ (wx : World) (j : Nat) (u : Value), Below wc.heap.size wc wx → Below wc.heap.size wc (wx.setCell ⟨wc.heap.size, j, none⟩ u) := fun wx j u h =>
                h.trans ((Chg.setCell wx wc.heap.size j u).below h.size fun k hk => by have hk : k = wc.heap.size := hk; omega)
              have HSET := Lib.hid hset; clear hset
              have hend : ∀ wx, Below wc.heap.size wc wx → RowR wx w.heap.size (.slice Ar k cr) rs ∧ Below w.heap.size w wx := fun wx h => ⟨HROW1.out.below h, HBW1.out.trans (h.mono HBW1.out.size)⟩
              have HEND := Lib.hid hend; clear hend
              rcases hres with ⟨hnone, rfl⟩ | ⟨has, K, R4, A5, c5, X, m5, d, hsome, rfl, hm5, hpc5, hmc5, hc5, hatk, hkd1, hkd2, hkb, hkby⟩
              · have hno := HBAD.out (dec.rec4 HD1.out.1 HD1.out.2 HDT.out.1 HDT.out.2 hnone)
                have HNO := Lib.hid hno; clear hno hnone
                go_wp2_with fail
                try rw [Exit.noGoto_ret]
                go_ret2
                have hz := HEND.out _ (HSET.out _ 3 (.slice none 0 0) (HSET.out _ 2 (.bool false) HBX4.out))
                exact HSUM.out _ rs _ false hz.1 hz.2 (.inr ⟨HNO.out, rfl⟩)
              · have HF1 := Lib.hid hsome
                have HM5 := Lib.hid hm5
                have hm5l : m5 ≤ 1000000 := by have := (dec.field_len hsome).1; rw [← hm5, ← HMB.out] at this; omega
                have hr4b := dec.field_byte HBB.out hsome
                have HR4B := Lib.hid hr4b
                have HPC5 := Lib.hid (Piece.trans HPB.out hpc5)
                have HKEY := Lib.hid (And.intro hatk (And.intro hkd1 (And.intro hkd2 (And.intro hkb hkby))))
                clear hsome hm5 hr4b hpc5 hatk hkd1 hkd2 hkb hkby
                unfold maxLen at hc5
                generalize hKn : K.length = kn
                have HKN := Lib.hid hKn; clear hKn
                go_wp2_with fail
                obtain ⟨w5, hw5⟩ : ∃ w5, w5 = (w4.setCell ⟨wc.heap.size, 2, none⟩ (.bool has)).setCell ⟨wc.heap.size, 3, none⟩ (.slice X kn d) := ⟨_, rfl⟩
                rw [← hw5]
                have hk5 : Blk w5 wc.heap.size 44 #[.int .i64 X0, .int .i64 X1, .bool has, .slice X kn d, .bool false, .slice none 0 0] := by rw [hw5]; exact (HK4.out.set 2 _).set 3 _
                have hb5 : Below wc.heap.size wc w5 := by rw [hw5]; exact HSET.out _ 3 _ (HSET.out _ 2 _ HBX4.out)
                have hc45 : Chg w4 w5 (fun k => k = wc.heap.size) := by rw [hw5]; exact (Chg.setCell w4 wc.heap.size 2 _).trans (Chg.setCell _ wc.heap.size 3 _) (fun _ _ h => h)
                clear hw5 e2 f2 e3 f3
                have HK5 := Lib.hid hk5; clear hk5
                have HB5 := Lib.hid hb5; clear hb5
                have HC45 := Lib.hid hc45; clear hc45
                have hkeyr : ∀ wx, Chg w5 wx (fun k => k = wc.heap.size) → KeyR wx w.heap.size (.slice Ar k cr) (.slice X K.length d) K := fun wx hbx5 => by
                  have h6 := (HC45.out.trans hbx5 (fun _ _ h => h)).at' HKEY.out.1 (fun h0 b off e hh => by
                    have q := HKEY.out.2.2.2.1 b (by rw [e]; rfl)
                    have hh : b = wc.heap.size := hh
                    omega)
                  refine ⟨⟨X, d, rfl, h6, HKEY.out.2.1, HKEY.out.2.2.1, HKEY.out.2.2.2.2⟩, fun g hg => ?_⟩
                  have q := HKEY.out.2.2.2.1 g hg
                  refine ⟨by have := HBW1.out.size; omega, by have := HC45.out.size; have := hbx5.size; omega, fun hh => ?_⟩
                  obtain ⟨xs, ho, -⟩ := HROW1.out
                  have := (ho.lt g hh).2
                  omega
                have HKEYR := Lib.hid hkeyr; clear hkeyr HKEY
                have hfld2 := bat.dfield_any A5 c5 R4 w5 (HPC5.out w5 (HPIN.out.below HB5.out (Nat.le_refl _))) HR4B.out (by rw [← HM5.out]; exact hmc5) (by unfold maxLen; omega) (by rw [← HM5.out]; omega)
                rw [← HM5.out] at hfld2
                have hlt5 : wr.heap.size ≤ w5.heap.size := Nat.le_trans HB4.out.size HC45.out.size
                have HFLD2 := Lib.hid hfld2; clear hfld2
                refine HFLD2.out.mono ?_
                rintro e w6 ⟨hres2, hb6⟩
                have HB6 := Lib.hid hb6
                have HB6C := Lib.hid (HB5.out.trans (hb6.mono HB5.out.size))
                have HK6 := Lib.hid ((chg_of (P := fun _ => False) hb6).blk HK5.out id); clear hb6
                have e4 : w6.cell? ⟨wc.heap.size, 4, none⟩ = some (.bool false) := HK6.out.cell 4 rfl
                have f4 : w6.frozen? ⟨wc.heap.size, 4, none⟩ = false := HK6.out.frozen 4
                have e5 : w6.cell? ⟨wc.heap.size, 5, none⟩ = some (.slice none 0 0) := HK6.out.cell 5 rfl
                have f5 : w6.frozen? ⟨wc.heap.size, 5, none⟩ = false := HK6.out.frozen 5
                rcases hres2 with ⟨hnone, rfl⟩ | ⟨hasV, V, R5, A7, c7, Y, m7, dy, hsome, rfl, hm7, hpc7, hmc7, hc7, hatv, hvd1, hvd2, hvb, hvby⟩
                · have hno := HBAD.out (dec.rec5 HD1.out.1 HD1.out.2 HDT.out.1 HDT.out.2 HF1.out hnone)
                  have HNO := Lib.hid hno; clear hno hnone
                  go_wp2_with fail
                  try rw [Exit.noGoto_ret]
                  go_ret2
                  have hz := HEND.out _ (HSET.out _ 5 (.slice none 0 0) (HSET.out _ 4 (.bool false) HB6C.out))
                  exact HSUM.out _ rs _ false hz.1 hz.2 (.inr ⟨HNO.out, rfl⟩)
                · by_cases hm70 : 0 < m7
                  · have hno := HBAD.out (dec.rec6 HD1.out.1 HD1.out.2 HDT.out.1 HDT.out.2 HF1.out hsome (by rw [← hm7]; exact hm70))
                    have HNO := Lib.hid hno; clear hno hsome hm7 hpc7 hatv hvb hvby
                    generalize V.length = vn
                    go_wp2_with fail
                    try rw [Exit.noGoto_ret]
                    go_ret2
                    have hz := HEND.out _ (HSET.out _ 5 (.slice Y vn dy) (HSET.out _ 4 (.bool hasV) HB6C.out))
                    exact HSUM.out _ rs _ false hz.1 hz.2 (.inr ⟨HNO.out, rfl⟩)
                  · obtain rfl : m7 = 0 := by omega
                    have hgd := HGOOD.out _ _ (dec.rec7 HD1.out.1 HD1.out.2 HDT.out.1 HDT.out.2 HF1.out hsome hm7.symm)
                    rw [← HX.out.1, ← HX.out.2] at hgd
                    have HGD := Lib.hid hgd; clear hgd hsome hm7 hpc7
                    have HVAL := Lib.hid (And.intro hatv (And.intro hvd1 (And.intro hvd2 (And.intro hvb hvby))))
                    clear hatv hvd1 hvd2 hvb hvby
                    generalize hVn : V.length = vn
                    have HVN := Lib.hid hVn; clear hVn
                    go_upto_region 21 with fail
                    obtain ⟨w7, hw7⟩ : ∃ w7, w7 = (w6.setCell ⟨wc.heap.size, 4, none⟩ (.bool hasV)).setCell ⟨wc.heap.size, 5, none⟩ (.slice Y vn dy) := ⟨_, rfl⟩
                    rw [← hw7]
                    have hk7 : Blk w7 wc.heap.size 44 #[.int .i64 X0, .int .i64 X1, .bool has, .slice X kn d, .bool hasV, .slice Y vn dy] := by rw [hw7]; exact (HK6.out.set 4 _).set 5 _
                    have hb7 : Below wc.heap.size wc w7 := by rw [hw7]; exact HSET.out _ 5 _ (HSET.out _ 4 _ HB6C.out)
                    have hc67 : Chg w6 w7 (fun k => k = wc.heap.size) := by rw [hw7]; exact (Chg.setCell w6 wc.heap.size 4 _).trans (Chg.setCell _ wc.heap.size 5 _) (fun _ _ h => h)
                    clear hw7 e4 f4 e5 f5
                    have g0 : w7.cell? ⟨wc.heap.size, 0, none⟩ = some (.int .i64 X0) := hk7.cell 0 rfl
                    have g1 : w7.cell? ⟨wc.heap.size, 1, none⟩ = some (.int .i64 X1) := hk7.cell 1 rfl
                    have g2 : w7.cell? ⟨wc.heap.size, 2, none⟩ = some (.bool has) := hk7.cell 2 rfl
                    have g3 : w7.cell? ⟨wc.heap.size, 3, none⟩ = some (.slice X kn d) := hk7.cell 3 rfl
                    have g4 : w7.cell? ⟨wc.heap.size, 4, none⟩ = some (.bool hasV) := hk7.cell 4 rfl
                    have g5 : w7.cell? ⟨wc.heap.size, 5, none⟩ = some (.slice Y vn dy) := hk7.cell 5 rfl
                    clear hk7
                    obtain ⟨w8, hw8⟩ : ∃ w8, w8 = w7.alloc (.cells #[.int .i64 X0, .int .i64 X1, .bool has, .slice X kn d, .bool hasV, .slice Y vn dy] 44) := ⟨_, rfl⟩
                    have hb8 : Below wc.heap.size wc w8 := by rw [hw8]; exact hb7.alloc hb7.size _
                    have hc68 : Chg w6 w8 (fun k => k = wc.heap.size) := by rw [hw8]; exact hc67.trans (Chg.alloc _ _ (fun _ => False)) (fun _ _ h => h.elim)
                    have hkv := HKEYR.out w8 ((chg_of HB6.out).trans hc68 (fun _ _ h => h))
                    have hvv : KeyR w8 w.heap.size (.slice Ar k cr) (.slice Y V.length dy) V := by
                      refine ⟨⟨Y, dy, rfl, hc68.at' HVAL.out.1 (fun h0 b off e hh => by
                        have q := HVAL.out.2.2.2.1 b (by rw [e]; rfl)
                        have hh : b = wc.heap.size := hh
                        omega), HVAL.out.2.1, HVAL.out.2.2.1, HVAL.out.2.2.2.2⟩, fun g hg => ?_⟩
                      have q := HVAL.out.2.2.2.1 g hg
                      refine ⟨by have := HBW1.out.size; omega, by have := hc68.size; omega, fun hh => ?_⟩
                      obtain ⟨xs, ho, -⟩ := HROW1.out
                      have := (ho.lt g hh).2
                      omega
                    rw [HKN.out] at hkv
                    rw [HVN.out] at hvv
                    obtain ⟨xs, hown, hcells⟩ := HROW1.out.below hb8
                    have hxl := hown.1
                    rw [HRL.out] at hown
                    have hat8 : At w8 (some ⟨w7.heap.size, 0, none⟩) (1 * 6) (fun j => ([.int .i64 X0, .int .i64 X1, .bool has, .slice X kn d, .bool hasV, .slice Y vn dy] : List Value).getD j undef) := by
                      rw [hw8]
                      exact (At.new w7 #[.int .i64 X0, .int .i64 X1, .bool has, .slice X kn d, .bool hasV, .slice Y vn dy] 44 (n := 1 * 6) rfl).congr fun j hj => by match j, hj with | 0, _ => rfl | 1, _ => rfl | 2, _ => rfl | 3, _ => rfl | 4, _ => rfl | 5, _ => rfl
                    have hsz8 : w.heap.size ≤ w8.heap.size := Nat.le_trans HBW1.out.size hb8.size
                    have happ : ∀ v2 w9, w9.ownsRow w.heap.size 44 6 v2 (k + 1) (xs ++ cellsOf (1 * 6) (fun j => ([.int .i64 X0, .int .i64 X1, .bool has, .slice X kn d, .bool hasV, .slice Y vn dy] : List Value).getD j undef)) → w8.grownBy w9 (Value.slice Ar k cr).ownBlock → Lies w8 (.slice Ar k cr) v2 →
                        RowR w9 w.heap.size v2 (rs ++ [⟨X0, X1, has, K, hasV, V⟩]) ∧ Below w.heap.size w w9 := fun v2 w9 h1 h2 h3 =>
                      ⟨RowR.append (r := ⟨X0, X1, has, K, hasV, V⟩) hcells hxl hkv hvv (by rw [HX.out.1]; exact wrap_ok _) (by rw [HX.out.2]; exact wrap_ok _) (by rw [HRL.out]; exact h1) h2 h3,
                        (HBW1.out.trans (hb8.mono HBW1.out.size)).grown h2 hsz8 (fun g hg => (hown.lt g hg).1)⟩
                    have HAPP := Lib.hid happ; clear happ hcells hxl hkv hvv
                    have HOWN := Lib.hid hown; clear hown
                    have HAT8 := Lib.hid hat8; clear hat8
                    clear hb7 hc67 hb8 hc68
                    have HW8 := Lib.hid hw8; clear hw8
                    go_wp2_with (at_builtin; go_loud (rw [← HW8.out]; refine wpList_app2 _ rfl (.tmp 102) (.tmp 104) 39 rfl w.heap.size 44 i0 _ 6 80 Try.underlying39 HI.out.1 HI.out.2.1 HI.out.2.2.1 HI.out.2.2.2 rfl (by decide) _ k xs rfl HOWN.out (some ⟨w7.heap.size, 0, none⟩) 1 1 _ rfl HAT8.out (fun j hj => by match j, hj with | 0, _ => rfl | 1, _ => rfl | 2, _ => rfl | 3, _ => rfl | 4, _ => rfl | 5, _ => rfl) (by unfold maxLen; omega) (by omega) hsz8 ?_; intro v2 w9 h1 h2 h3; have HR9 := Lib.hid (HAPP.out v2 w9 h1 h2 h3); clear h1 h2 h3))
                    go_roundg g
                    case measure => omega
                    case rel => exact ⟨k + 1, rs ++ [⟨X0, X1, has, K, hasV, V⟩], R1.drop z, Ap, m2 - z, cp, by omega, by go_num, rfl, by rw [List.length_drop, ← HM2.out], HPP.out, hpp1, by unfold maxLen; omega, by omega, fun x hx => HR1B.out x (List.mem_of_mem_drop hx), HR9.out.1, by rw [List.length_append, HRL.out]; rfl, HGD.out, HR9.out.2⟩

theorem rd.fixed_pos (L : List Nat) (e s : Int) : 0 ≤ (rd.fixed L e s).1 := by
  unfold rd.fixed
  split
  · exact Int.le_refl _
  · split
    · exact Int.le_refl _
    · exact Int.natCast_nonneg _
theorem rd.fixed_suf (L : List Nat) (e s : Int) : (rd.fixed L e s).2.1 <:+ L := by
  unfold rd.fixed
  split
  · exact List.suffix_refl _
  · split
    · exact List.nil_suffix
    · exact List.drop_suffix _ _
/-- What decodeSummed decodes. -/
def dec.f1 (L : List Nat) := rd.fixed L 0 8
def dec.f2 (L : List Nat) := rd.fixed (dec.f1 L).2.1 (dec.f1 L).2.2 8
def dec.f3 (L : List Nat) := rd.fixed (dec.f2 L).2.1 (dec.f2 L).2.2 8
def dec.f4 (L : List Nat) := rd.fixed (dec.f3 L).2.1 (dec.f3 L).2.2 2
def dec.f5 (L : List Nat) := rd.fixed (dec.f4 L).2.1 (dec.f4 L).2.2 4
def dec.f6 (L : List Nat) := rd.fixed (dec.f5 L).2.1 (dec.f5 L).2.2 4
def dec.summed (base : Int) (L : List Nat) : Option Bat :=
  if (dec.f6 L).2.2 ≠ 0 ∨ 100 < (dec.f6 L).1 ∨ 1125899906842624 < (dec.f2 L).1 then none else
  match dec.all (dec.f2 L).1 base (dec.f6 L).1.toNat (dec.f6 L).2.1 with
  | none => none
  | some rs => if Bat.first rs = (dec.f2 L).1 then some ⟨base, wrap64 (base + (dec.f1 L).1), (dec.f3 L).1, (dec.f4 L).1, (dec.f5 L).1, rs⟩ else none
theorem dec.f6_suf (L : List Nat) : (dec.f6 L).2.1 <:+ L :=
  (rd.fixed_suf _ _ _).trans ((rd.fixed_suf _ _ _).trans ((rd.fixed_suf _ _ _).trans ((rd.fixed_suf _ _ _).trans ((rd.fixed_suf _ _ _).trans (rd.fixed_suf _ _ _)))))

/-- A reader stays as it was where a block of another kind turns. -/
theorem Rd.past {w w' : World} {r pb : Nat} {A : Option Addr} {c : Nat} {L : List Nat} {e : Int} {T : TypeId} {x0 x1 x2 x3 x4 : Int} {V : Option Addr} {vn vc : Nat} (h : Rd w r A c L e)
    (hb : Blk w pb T #[.int .i64 x0, .int .i64 x1, .int .i64 x2, .int .i64 x3, .int .i64 x4, .slice V vn vc]) (hc : Chg w w' (fun k => k = pb)) (hne : r ≠ pb) : Rd w' r A c L e :=
  ⟨hc.blk h.blk hne, hc.at' h.lie (fun h0 b off hA hh => h.lie.not_blk h0 hb (fun j u hj => by
    rcases j with _ | _ | _ | _ | _ | _ | j <;> simp at hj <;> subst hj <;> unfold byteAt <;> simp) b off hA hh), h.len, h.cap, h.byte⟩

/-- The later worlds in which a cell still holds this. -/
def LaterC (w : World) (p : Nat → Prop) (a : Addr) (v : Value) : Type := { w' : World // Chg w w' p ∧ w'.cell? a = some v }
theorem laterC_of {w w' : World} {p : Nat → Prop} {a : Addr} {v : Value} (h : Chg w w' p) (hv : w'.cell? a = some v) : ∃ x : LaterC w p a v, w' = x.1 := ⟨⟨w', h, hv⟩, rfl⟩

set_option maxRecDepth 20000 in
set_option maxHeartbeats 4000000 in
theorem bat.dsummed_any (A : Option Addr) (c pb : Nat) (base : Int) (L : List Nat) (w : World) (hat : At w A L.length (byteAt L)) (hb : ∀ x ∈ L, x < 256) (hn : L.length ≤ c) (hc : c ≤ maxLen) (hl : L.length ≤ 1000000)
    (hp : Blk w pb 42 #[.int .i64 base, .int .i64 0, .int .i64 0, .int .i64 0, .int .i64 0, .slice none 0 0]) :
    Calls Try.prog 75 #[.slice A L.length c, .pointer (some ⟨pb, 0, none⟩)] w fun e w' => ∃ x1 x2 x3 x4 v rs, RowR w' w.heap.size v rs ∧ Blk w' pb 42 #[.int .i64 base, .int .i64 x1, .int .i64 x2, .int .i64 x3, .int .i64 x4, v] ∧ Chg w w' (fun k => k = pb) ∧
      ((dec.summed base L = some ⟨base, x1, x2, x3, x4, rs⟩ ∧ e = .returned (.bool true)) ∨ (dec.summed base L = none ∧ e = .returned (.bool false))) := by
  have hplt := hp.lt
  have hatk : ∀ wx, Chg w wx (fun k => k = pb) → At wx A L.length (byteAt L) := fun wx h => h.at' hat (fun h0 b off hA hh => hat.not_blk h0 hp (fun j u hj => by
    rcases j with _ | _ | _ | _ | _ | _ | j <;> simp at hj <;> subst hj <;> unfold byteAt <;> simp) b off hA hh)
  have HATK := Lib.hid hatk; clear hatk
  have hbor := wire.borrow_at A c L w hat hn hc hb
  have HBOR := Lib.hid hbor; clear hbor hat
  have HB := Lib.hid hb; clear hb
  have HP := Lib.hid hp; clear hp
  unfold maxLen at hc
  obtain ⟨v1, hv1⟩ : ∃ v, v = (dec.f1 L).1 := ⟨_, rfl⟩
  obtain ⟨R1, hR1⟩ : ∃ v, v = (dec.f1 L).2.1 := ⟨_, rfl⟩
  obtain ⟨E1, hE1⟩ : ∃ v, v = (dec.f1 L).2.2 := ⟨_, rfl⟩
  obtain ⟨v2, hv2⟩ : ∃ v, v = (dec.f2 L).1 := ⟨_, rfl⟩
  obtain ⟨R2, hR2⟩ : ∃ v, v = (dec.f2 L).2.1 := ⟨_, rfl⟩
  obtain ⟨E2, hE2⟩ : ∃ v, v = (dec.f2 L).2.2 := ⟨_, rfl⟩
  obtain ⟨v3, hv3⟩ : ∃ v, v = (dec.f3 L).1 := ⟨_, rfl⟩
  obtain ⟨R3, hR3⟩ : ∃ v, v = (dec.f3 L).2.1 := ⟨_, rfl⟩
  obtain ⟨E3, hE3⟩ : ∃ v, v = (dec.f3 L).2.2 := ⟨_, rfl⟩
  obtain ⟨v4, hv4⟩ : ∃ v, v = (dec.f4 L).1 := ⟨_, rfl⟩
  obtain ⟨R4, hR4⟩ : ∃ v, v = (dec.f4 L).2.1 := ⟨_, rfl⟩
  obtain ⟨E4, hE4⟩ : ∃ v, v = (dec.f4 L).2.2 := ⟨_, rfl⟩
  obtain ⟨v5, hv5⟩ : ∃ v, v = (dec.f5 L).1 := ⟨_, rfl⟩
  obtain ⟨R5, hR5⟩ : ∃ v, v = (dec.f5 L).2.1 := ⟨_, rfl⟩
  obtain ⟨E5, hE5⟩ : ∃ v, v = (dec.f5 L).2.2 := ⟨_, rfl⟩
  obtain ⟨v6, hv6⟩ : ∃ v, v = (dec.f6 L).1 := ⟨_, rfl⟩
  obtain ⟨R6, hR6⟩ : ∃ v, v = (dec.f6 L).2.1 := ⟨_, rfl⟩
  obtain ⟨E6, hE6⟩ : ∃ v, v = (dec.f6 L).2.2 := ⟨_, rfl⟩
  have h60 : 0 ≤ v6 := by rw [hv6]; exact rd.fixed_pos _ _ _
  have hsuf : R6 <:+ L := by rw [hR6]; exact dec.f6_suf L
  have hsum : dec.summed base L = if E6 ≠ 0 ∨ 100 < v6 ∨ 1125899906842624 < v2 then none else match dec.all v2 base v6.toNat R6 with | none => none | some rs => if Bat.first rs = v2 then some ⟨base, wrap64 (base + v1), v3, v4, v5, rs⟩ else none := by
    rw [hE6, hv6, hv2, hR6, hv1, hv3, hv4, hv5]; rfl
  have HSUM := Lib.hid hsum; clear hsum
  have hfx1 : ∀ (r : Nat) (A : Option Addr) (c : Nat) (w : World), Rd w r A c L 0 → Calls Try.prog 72 #[.pointer (some ⟨r, 0, none⟩), .int .i64 8] w (RdPost w r (.int .i64 v1) R1 E1) := fun r A c w h => by
    rw [hv1, hR1, hE1]
    exact wire.rfixed_any r A c _ _ 8 w h
  have hfx2 : ∀ (r : Nat) (A : Option Addr) (c : Nat) (w : World), Rd w r A c R1 E1 → Calls Try.prog 72 #[.pointer (some ⟨r, 0, none⟩), .int .i64 8] w (RdPost w r (.int .i64 v2) R2 E2) := fun r A c w h => by
    rw [hv2, hR2, hE2]
    rw [hR1, hE1] at h
    exact wire.rfixed_any r A c _ _ 8 w h
  have hfx3 : ∀ (r : Nat) (A : Option Addr) (c : Nat) (w : World), Rd w r A c R2 E2 → Calls Try.prog 72 #[.pointer (some ⟨r, 0, none⟩), .int .i64 8] w (RdPost w r (.int .i64 v3) R3 E3) := fun r A c w h => by
    rw [hv3, hR3, hE3]
    rw [hR2, hE2] at h
    exact wire.rfixed_any r A c _ _ 8 w h
  have hfx4 : ∀ (r : Nat) (A : Option Addr) (c : Nat) (w : World), Rd w r A c R3 E3 → Calls Try.prog 72 #[.pointer (some ⟨r, 0, none⟩), .int .i64 2] w (RdPost w r (.int .i64 v4) R4 E4) := fun r A c w h => by
    rw [hv4, hR4, hE4]
    rw [hR3, hE3] at h
    exact wire.rfixed_any r A c _ _ 2 w h
  have hfx5 : ∀ (r : Nat) (A : Option Addr) (c : Nat) (w : World), Rd w r A c R4 E4 → Calls Try.prog 72 #[.pointer (some ⟨r, 0, none⟩), .int .i64 4] w (RdPost w r (.int .i64 v5) R5 E5) := fun r A c w h => by
    rw [hv5, hR5, hE5]
    rw [hR4, hE4] at h
    exact wire.rfixed_any r A c _ _ 4 w h
  have hfx6 : ∀ (r : Nat) (A : Option Addr) (c : Nat) (w : World), Rd w r A c R5 E5 → Calls Try.prog 72 #[.pointer (some ⟨r, 0, none⟩), .int .i64 4] w (RdPost w r (.int .i64 v6) R6 E6) := fun r A c w h => by
    rw [hv6, hR6, hE6]
    rw [hR5, hE5] at h
    exact wire.rfixed_any r A c _ _ 4 w h
  have HFX1 := Lib.hid hfx1; clear hfx1
  have HFX2 := Lib.hid hfx2; clear hfx2
  have HFX3 := Lib.hid hfx3; clear hfx3
  have HFX4 := Lib.hid hfx4; clear hfx4
  have HFX5 := Lib.hid hfx5; clear hfx5
  have HFX6 := Lib.hid hfx6; clear hfx6
  clear hv1 hv2 hv3 hv4 hv5 hv6 hR1 hR2 hR3 hR4 hR5 hR6 hE1 hE2 hE3 hE4 hE5 hE6
  go_enter Try.func75, Try.ntmps75
  go_wp2_with fail
  refine HBOR.out.mono ?_
  rintro e w1 ⟨r, rfl, hr, hrle, hb1⟩
  have hk1 := (chg_of (P := fun _ => False) hb1).blk HP.out id
  have hne : r ≠ pb := by omega
  have HR1 := Lib.hid hr; clear hr
  have HK1 := Lib.hid hk1; clear hk1
  have HC1 := Lib.hid (chg_of (P := fun k => k = pb) hb1); clear hb1
  have q0 : ∀ x : LaterC w1 (fun k => k = r ∨ k = pb) ⟨pb, 0, none⟩ (.int .i64 base), x.1.cell? ⟨pb, 0, none⟩ = some (.int .i64 base) := fun x => x.2.2
  have HNE : Nonempty (LaterC w1 (fun k => k = r ∨ k = pb) ⟨pb, 0, none⟩ (.int .i64 base)) := ⟨⟨w1, Chg.refl _ _, HK1.out.cell 0 rfl⟩⟩
  go_upto_region 2 with fail
  have hS0 : ∃ x : LaterC w1 (fun k => k = r ∨ k = pb) ⟨pb, 0, none⟩ (.int .i64 base), w1.drew = x.1 := laterC_of ((Chg.refl _ _).drew) (HK1.out.cell 0 rfl)
  refine wp_plan (S := fun w0 => ∃ x : LaterC w1 (fun k => k = r ∨ k = pb) ⟨pb, 0, none⟩ (.int .i64 base), w0 = x.1) (by kernel_rfl) hS0 ?_
  intro hS K hK
  have HS := Lib.hid hS; clear hS hS0
  refine plan_group [true, true, true, true, true, true] [0, 1, 2, 3, 4, 5] 5 (by dsimp only [sel]) (by rfl) rfl (by kernel_rfl) (by kernel_rfl) HS.out ?_
  (repeat go_big_quiet_step (fail)); refine wpQuiet_nil ?_
  refine plan_one [false, false, false, false, false, false, true] 6 4 (by dsimp only [sel]) (by rfl) rfl (by kernel_rfl) ?_; intro K1 hK1; go_wp2_with fail
  refine (HFX1.out r _ _ _ (show Rd w1.drew r A c L 0 from ⟨HR1.out.blk, HR1.out.lie, HR1.out.len, HR1.out.cap, HR1.out.byte⟩)).mono ?_
  rintro e w2 ⟨rfl, hr2, hc2⟩
  have hc2 : Chg w1 w2 (fun k => k = r) := (Chg.refl w1 _).drew.trans hc2 (fun _ _ h => h)
  have HK2 := Lib.hid (hc2.blk HK1.out fun h => hne h.symm)
  have HC2 := Lib.hid (HC1.out.trans hc2 (fun k hk h => by omega))
  have HS2 := Lib.hid (laterC_of (p := fun k => k = r ∨ k = pb) (hc2.mono fun k _ h => .inl h) (HK2.out.cell 0 (v := .int .i64 base) rfl))
  have HR2 := Lib.hid hr2; clear hr2 hc2
  go_wp2_with fail
  refine ⟨HS2.out, ?_⟩
  refine plan_group [false, false, false, false, false, false, false, true, true, true] [7, 8, 9] 1 (by dsimp only [sel]) (by rfl) rfl (by kernel_rfl) (by kernel_rfl) HS2.out ?_
  (repeat go_big_quiet_step (fail)); refine wpQuiet_nil ?_
  have g0 : w2.cell? ⟨pb, 1, none⟩ = some (.int .i64 0) := HK2.out.cell 1 rfl
  have g1 : w2.frozen? ⟨pb, 1, none⟩ = false := HK2.out.frozen 1
  refine plan_one [false, false, false, false, false, false, false, false, false, false, true] 10 0 (by dsimp only [sel]) (by rfl) rfl (by kernel_rfl) ?_; intro K1 hK1; go_wp2_with fail
  obtain ⟨A2, c2, hr2⟩ := HR2.out
  obtain ⟨w3, hw3⟩ : ∃ w3, w3 = w2.setCell ⟨pb, 1, none⟩ (.int .i64 (wrap64 (base + v1))) := ⟨_, rfl⟩
  rw [← hw3]
  have hc23 : Chg w2 w3 (fun k => k = pb) := by rw [hw3]; exact Chg.setCell w2 pb 1 _
  have hk3 : Blk w3 pb 42 #[.int .i64 base, .int .i64 (wrap64 (base + v1)), .int .i64 0, .int .i64 0, .int .i64 0, .slice none 0 0] := by rw [hw3]; exact HK2.out.set 1 _
  have hc13 : Chg w1 w3 (fun k => k = r ∨ k = pb) := by
    obtain ⟨x, hx⟩ := HS2.out
    have h12 : Chg w1 w2 (fun k => k = r ∨ k = pb) := by rw [hx]; exact x.2.1
    exact h12.trans hc23 (fun _ _ h => .inr h)
  refine ⟨laterC_of hc13 (hk3.cell 0 rfl), ?_⟩
  have HR3 := Lib.hid (hr2.past HK2.out hc23 hne)
  have HC3 := Lib.hid (HC2.out.trans hc23 (fun _ _ h => h))
  have HK3 := Lib.hid hk3
  clear hw3 hc23 hk3 hc13 hr2 g0 g1 HS HS2 HNE q0 HK2 HC2 HR2 HC1 HK1 HR1 HFX1
  refine wp_plan_end (by kernel_rfl) ?_
  refine hK _ _ ?_
  clear hK
  obtain ⟨X1, hX1⟩ : ∃ X1, X1 = wrap64 (base + v1) := ⟨_, rfl⟩
  rw [← hX1] at HK3 ⊢
  have HX1 := Lib.hid hX1; clear hX1
  go_wp2_with fail
  refine (HFX2.out r _ _ w3 HR3.out).mono ?_
  rintro e w4 ⟨rfl, ⟨A4, c4, hr⟩, hc⟩
  have HK4 := Lib.hid (hc.blk HK3.out fun h => hne h.symm)
  have HC4 := Lib.hid (HC3.out.trans hc (fun k hk h => by have h : k = r := h; omega))
  have HR4 := Lib.hid hr; clear hr hc HFX2 HK3 HC3 HR3
  go_wp2_with fail
  refine (HFX3.out r _ _ w4 HR4.out).mono ?_
  rintro e w5 ⟨rfl, ⟨A5, c5, hr⟩, hc⟩
  have HK5 := Lib.hid (hc.blk HK4.out fun h => hne h.symm)
  have HC5 := Lib.hid (HC4.out.trans hc (fun k hk h => by have h : k = r := h; omega))
  have HR5 := Lib.hid hr; clear hr hc HFX3 HK4 HC4 HR4
  have g0 : w5.cell? ⟨pb, 2, none⟩ = some (.int .i64 0) := HK5.out.cell 2 rfl
  have g1 : w5.frozen? ⟨pb, 2, none⟩ = false := HK5.out.frozen 2
  go_upto_region 5 with fail
  obtain ⟨w6, hw⟩ : ∃ w6, w6 = w5.setCell ⟨pb, 2, none⟩ (.int .i64 v3) := ⟨_, rfl⟩
  rw [← hw]
  have hc : Chg w5 w6 (fun k => k = pb) := by rw [hw]; exact Chg.setCell w5 pb 2 _
  have HK6 := Lib.hid (show Blk w6 pb 42 #[.int .i64 base, .int .i64 X1, .int .i64 v3, .int .i64 0, .int .i64 0, .slice none 0 0] by rw [hw]; exact HK5.out.set 2 _)
  have HR6 := Lib.hid (HR5.out.past HK5.out hc hne)
  have HC6 := Lib.hid (HC5.out.trans hc (fun _ _ h => h)); clear hc hw g0 g1 HK5 HR5 HC5
  go_wp2_with fail
  refine (HFX4.out r _ _ w6 HR6.out).mono ?_
  rintro e w7 ⟨rfl, ⟨A7, c7, hr⟩, hc⟩
  have HK7 := Lib.hid (hc.blk HK6.out fun h => hne h.symm)
  have HC7 := Lib.hid (HC6.out.trans hc (fun k hk h => by have h : k = r := h; omega))
  have HR7 := Lib.hid hr; clear hr hc HFX4 HK6 HC6 HR6
  have g0 : w7.cell? ⟨pb, 3, none⟩ = some (.int .i64 0) := HK7.out.cell 3 rfl
  have g1 : w7.frozen? ⟨pb, 3, none⟩ = false := HK7.out.frozen 3
  go_upto_region 6 with fail
  obtain ⟨w8, hw⟩ : ∃ w8, w8 = w7.setCell ⟨pb, 3, none⟩ (.int .i64 v4) := ⟨_, rfl⟩
  rw [← hw]
  have hc : Chg w7 w8 (fun k => k = pb) := by rw [hw]; exact Chg.setCell w7 pb 3 _
  have HK8 := Lib.hid (show Blk w8 pb 42 #[.int .i64 base, .int .i64 X1, .int .i64 v3, .int .i64 v4, .int .i64 0, .slice none 0 0] by rw [hw]; exact HK7.out.set 3 _)
  have HR8 := Lib.hid (HR7.out.past HK7.out hc hne)
  have HC8 := Lib.hid (HC7.out.trans hc (fun _ _ h => h)); clear hc hw g0 g1 HK7 HR7 HC7
  go_wp2_with fail
  refine (HFX5.out r _ _ w8 HR8.out).mono ?_
  rintro e w9 ⟨rfl, ⟨A9, c9, hr⟩, hc⟩
  have HK9 := Lib.hid (hc.blk HK8.out fun h => hne h.symm)
  have HC9 := Lib.hid (HC8.out.trans hc (fun k hk h => by have h : k = r := h; omega))
  have HR9 := Lib.hid hr; clear hr hc HFX5 HK8 HC8 HR8
  have g0 : w9.cell? ⟨pb, 4, none⟩ = some (.int .i64 0) := HK9.out.cell 4 rfl
  have g1 : w9.frozen? ⟨pb, 4, none⟩ = false := HK9.out.frozen 4
  go_upto_region 7 with fail
  obtain ⟨w10, hw⟩ : ∃ w10, w10 = w9.setCell ⟨pb, 4, none⟩ (.int .i64 v5) := ⟨_, rfl⟩
  rw [← hw]
  have hc : Chg w9 w10 (fun k => k = pb) := by rw [hw]; exact Chg.setCell w9 pb 4 _
  have HK10 := Lib.hid (show Blk w10 pb 42 #[.int .i64 base, .int .i64 X1, .int .i64 v3, .int .i64 v4, .int .i64 v5, .slice none 0 0] by rw [hw]; exact HK9.out.set 4 _)
  have HR10 := Lib.hid (HR9.out.past HK9.out hc hne)
  have HC10 := Lib.hid (HC9.out.trans hc (fun _ _ h => h)); clear hc hw g0 g1 HK9 HR9 HC9
  go_wp2_with fail
  refine (HFX6.out r _ _ w10 HR10.out).mono ?_
  rintro e w11 ⟨rfl, ⟨A11, c11, hr⟩, hc⟩
  have HK11 := Lib.hid (hc.blk HK10.out fun h => hne h.symm)
  have HC11 := Lib.hid (HC10.out.trans hc (fun k hk h => by have h : k = r := h; omega))
  have HR11 := Lib.hid hr; clear hr hc HFX6 HK10 HC10 HR10
  go_wp2_with fail
  refine (wire.err_any r _ _ R6 E6 w11 HR11.out).mono ?_
  rintro e wx ⟨rfl, rfl⟩
  by_cases hbad : E6 ≠ 0 ∨ 100 < v6 ∨ 1125899906842624 < v2
  · have hno : dec.summed base L = none := by rw [HSUM.out, if_pos hbad]
    have HNO := Lib.hid hno; clear hno
    have hb3 : (E6 != 0) = true ∨ ((E6 != 0) = false ∧ 100 < v6) ∨ ((E6 != 0) = false ∧ ¬ 100 < v6 ∧ 1125899906842624 < v2) := by
      by_cases h1 : E6 = 0
      · rcases hbad with h | h | h
        · exact absurd h1 h
        · exact .inr (.inl ⟨by simpa using h1, h⟩)
        · by_cases h2 : 100 < v6
          · exact .inr (.inl ⟨by simpa using h1, h2⟩)
          · exact .inr (.inr ⟨by simpa using h1, h2, h⟩)
      · exact .inl (by simpa using h1)
    clear hbad
    rcases hb3 with h1 | ⟨h1, h2⟩ | ⟨h1, h2, h3⟩
    all_goals
      go_wp2
      go_ret
      exact ⟨X1, v3, v4, v5, .slice none 0 0, [], RowR.nil _ _, HK11.out, HC11.out, .inr ⟨HNO.out, rfl⟩⟩
  · have h1 : (E6 != 0) = false := by simp; omega
    have h2 : ¬ 100 < v6 := by omega
    have h3 : ¬ 1125899906842624 < v2 := by omega
    obtain ⟨q, rfl⟩ : ∃ q : Nat, v6 = (q : Int) := ⟨v6.toNat, by omega⟩
    have hsum2 : dec.summed base L = match dec.all v2 base q R6 with | none => none | some rs => if Bat.first rs = v2 then some ⟨base, wrap64 (base + v1), v3, v4, v5, rs⟩ else none := by rw [HSUM.out, if_neg hbad, Int.toNat_natCast]
    have HSUM2 := Lib.hid hsum2; clear hsum2 HSUM hbad
    have hsl := hsuf.length_le
    have hdr := List.suffix_iff_eq_drop.1 hsuf
    obtain ⟨m6, hm6⟩ : ∃ m6, m6 = R6.length := ⟨_, rfl⟩
    obtain ⟨D, hD⟩ : ∃ D, L.length = D + m6 := ⟨L.length - m6, by omega⟩
    have hdr2 : L.drop D = R6 := by rw [show D = L.length - R6.length by omega]; exact hdr.symm
    have hr6b : ∀ x ∈ R6, x < 256 := fun x hx => HB.out x (hsuf.subset hx)
    have HR6B := Lib.hid hr6b; clear hr6b
    have HATD := Lib.hid (Piece.drop A L D)
    rw [hdr2] at HATD
    have HLEN := Lib.hid hD
    have HM6 := Lib.hid hm6
    rw [hD] at hn hl ⊢
    clear hdr hdr2 hsl hsuf hm6 hD
    have hq : q ≤ 100 := by omega
    have hcb : (D : Int) + (m6 : Int) - (m6 : Int) = (D : Int) := by omega
    go_upto_region 10 with fail
    have q0 : ∀ x : Later w11 (fun _ => False), x.1.cell? ⟨pb, 0, none⟩ = some (.int .i64 base) := fun x => (x.2.blk HK11.out id).cell 0 rfl
    have hS0 : later w11 (fun _ => False) w11.drew := later_of ((Chg.refl _ _).drew)
    refine wp_plan (S := fun w0 => ∃ x : Later w11 (fun _ => False), w0 = x.1) (by kernel_rfl) hS0 ?_
    intro hS K hK
    have HS := Lib.hid hS; clear hS hS0
    refine plan_group [true, true, true, true, false, false, false, true, true, true, true, true, true] [0, 1, 2, 3, 7, 8, 9, 10, 11, 12] 9 (by dsimp only [sel]) (by rfl) rfl (by kernel_rfl) (by kernel_rfl) HS.out ?_
    (repeat go_big_quiet_step (fail)); refine wpQuiet_nil ?_
    refine plan_one [false, false, false, false, true] 4 8 (by dsimp only [sel]) (by rfl) rfl (by kernel_rfl) ?_; intro K1 hK1; go_wp2_with fail
    refine (wire.left_any r _ _ R6 E6 w11.drew ⟨HR11.out.blk, HR11.out.lie, HR11.out.len, HR11.out.cap, HR11.out.byte⟩).mono ?_
    rintro e wx ⟨rfl, rfl⟩
    rw [← HM6.out]
    go_wp2_with fail
    refine ⟨HS.out, ?_⟩
    by_cases hcD : c = D
    · subst hcD
      obtain rfl : m6 = 0 := by omega
      have hnil : R6 = [] := List.length_eq_zero_iff.1 HM6.out.symm
      refine plan_group [false, false, false, false, false, true, true] [5, 6] 6 (by dsimp only [sel]) (by rfl) rfl (by kernel_rfl) (by kernel_rfl) HS.out ?_
      (repeat go_big_quiet_step (fail)); refine wpQuiet_nil ?_
      clear q0
      have hrec := fun wx (h : Below w11.heap.size w11 wx) => bat.drecords_any A 0 q v2 base R6 wx (((fun _ _ => At.none0 (by rw [← HM6.out]) : Piece A L A R6) _ (HATK.out _ (HC11.out.trans (chg_of (P := fun _ => False) h) (fun _ _ h => h.elim)))) ) HR6B.out (by rw [← HM6.out]; omega) (by unfold maxLen; omega) (by rw [← HM6.out]; omega) (by omega)
      rw [← HM6.out] at hrec
      have HREC := Lib.hid hrec; clear hrec
      refine plan_one [false, false, false, false, false, false, false, false, false, false, false, false, false, true] 13 5 (by dsimp only [sel]) (by rfl) rfl (by kernel_rfl) ?_; intro K1 hK1; go_wp2_with fail
      refine (HREC.out _ (bdrew (Below.refl _ w11) 1)).mono ?_
      rintro e w12 ⟨⟨v, rs, hrow, hres⟩, hb12⟩
      have HB12 := Lib.hid (show Below w11.heap.size w11 w12 from (bdrew (Below.refl _ w11) 1).trans hb12); clear hb12
      have HROW := Lib.hid (show RowR w12 w11.heap.size v rs from hrow); clear hrow
      obtain ⟨Av, cv, hveq, -⟩ := HROW.out.recsV
      subst hveq
      generalize hnv : rs.length = nv at *
      have HNV := Lib.hid hnv; clear hnv
      have HK12 := Lib.hid ((chg_of (P := fun _ => False) HB12.out).blk HK11.out id)
      obtain ⟨ok, he, hok⟩ : ∃ ok : Bool, e = .returned (.tuple #[.slice Av nv cv, .bool ok]) ∧ ((dec.all v2 base q R6 = some rs ∧ ok = true) ∨ (dec.all v2 base q R6 = none ∧ ok = false)) := by
        rcases hres with ⟨h1, h2⟩ | ⟨h1, h2⟩
        · exact ⟨true, h2, .inl ⟨h1, rfl⟩⟩
        · exact ⟨false, h2, .inr ⟨h1, rfl⟩⟩
      subst he
      clear hres
      have HOK := Lib.hid hok; clear hok
      go_wp2_with fail
      refine ⟨later_of (chg_of HB12.out), ?_⟩
      refine plan_group [false, false, false, false, false, false, false, false, false, false, false, false, false, false, true, true, true, true, true] [14, 15, 16, 17, 18] 0 (by dsimp only [sel]) (by rfl) rfl (by kernel_rfl) (by kernel_rfl) (later_of (chg_of HB12.out)) ?_
      (repeat go_big_quiet_step (fail)); refine wpQuiet_nil ?_
      refine wp_plan_end (by kernel_rfl) ?_
      refine hK _ _ ?_
      clear hK HS
      have g0 : w12.cell? ⟨pb, 5, none⟩ = some (.slice none 0 0) := HK12.out.cell 5 rfl
      have g1 : w12.frozen? ⟨pb, 5, none⟩ = false := HK12.out.frozen 5
      go_upto_region 12 with fail
      obtain ⟨w13, hw⟩ : ∃ w13, w13 = w12.setCell ⟨pb, 5, none⟩ (.slice Av nv cv) := ⟨_, rfl⟩
      rw [← hw]
      have hc13 : Chg w12 w13 (fun k => k = pb) := by rw [hw]; exact Chg.setCell w12 pb 5 _
      have hk13 : Blk w13 pb 42 #[.int .i64 base, .int .i64 X1, .int .i64 v3, .int .i64 v4, .int .i64 v5, .slice Av nv cv] := by rw [hw]; exact HK12.out.set 5 _
      clear hw g0 g1
      have hrow13 : RowR w13 w11.heap.size (.slice Av nv cv) rs := HROW.out.chg hc13 (fun g h1 h2 h3 => by have h3 : g = pb := h3; have := HK11.out.lt; omega)
      obtain ⟨Av', cv', hveq, hrv⟩ := hrow13.recsV
      rw [HNV.out] at hveq hrv
      obtain ⟨rfl, rfl⟩ : Av = Av' ∧ cv = cv' := by simpa using hveq
      clear hveq
      have HROW13 := Lib.hid hrow13; clear hrow13
      have HC13 := Lib.hid ((HC11.out.trans (chg_of (P := fun _ => False) HB12.out) (fun _ _ h => h.elim)).trans hc13 (fun _ _ h => h)); clear hc13
      have htm := bat.times_any ⟨base, X1, v3, v4, v5, rs⟩ Av cv w13 (by dsimp only; rw [HNV.out]; exact hrv)
      unfold Bat.hval at htm
      dsimp only at htm
      rw [HNV.out] at htm
      have HTM := Lib.hid htm; clear htm hrv
      have d0 : w13.cell? ⟨pb, 0, none⟩ = some (.int .i64 base) := hk13.cell 0 rfl
      have d1 : w13.cell? ⟨pb, 1, none⟩ = some (.int .i64 X1) := hk13.cell 1 rfl
      have d2 : w13.cell? ⟨pb, 2, none⟩ = some (.int .i64 v3) := hk13.cell 2 rfl
      have d3 : w13.cell? ⟨pb, 3, none⟩ = some (.int .i64 v4) := hk13.cell 3 rfl
      have d4 : w13.cell? ⟨pb, 4, none⟩ = some (.int .i64 v5) := hk13.cell 4 rfl
      have d5 : w13.cell? ⟨pb, 5, none⟩ = some (.slice Av nv cv) := hk13.cell 5 rfl
      have HK13 := Lib.hid hk13; clear hk13
      obtain ⟨T1, hT1⟩ : ∃ T1, T1 = Bat.first rs := ⟨_, rfl⟩
      obtain ⟨T2, hT2⟩ : ∃ T2, T2 = Bat.mostT rs := ⟨_, rfl⟩
      rw [← hT1, ← hT2] at HTM
      have HT1 := Lib.hid hT1; clear hT1 hT2
      go_wp2_with fail
      refine HTM.out.mono ?_
      rintro e w14 ⟨rfl, hb14⟩
      have HROW14 := Lib.hid ((HROW13.out.below hb14).up HC11.out.size)
      have HK14 := Lib.hid ((chg_of (P := fun _ => False) hb14).blk HK13.out id)
      have HC14 := Lib.hid (HC13.out.trans (chg_of (P := fun _ => False) hb14) (fun _ _ h => h.elim)); clear hb14 d0 d1 d2 d3 d4 d5
      rcases HOK.out with ⟨hall, rfl⟩ | ⟨hall, rfl⟩
      · by_cases hT : T1 = v2
        · have hd : (T1 == v2) = true := by simpa using hT
          have hyes : dec.summed base L = some ⟨base, X1, v3, v4, v5, rs⟩ := by
            rw [HSUM2.out, hall]
            show (if Bat.first rs = v2 then _ else _) = _
            rw [if_pos (by rw [← HT1.out]; exact hT), HX1.out]
          have HYES := Lib.hid hyes; clear hyes hall hT
          go_wp2
          go_ret
          exact ⟨X1, v3, v4, v5, _, rs, HROW14.out, HK14.out, HC14.out, .inl ⟨HYES.out, rfl⟩⟩
        · have hd : (T1 == v2) = false := by simpa using hT
          have hno : dec.summed base L = none := by
            rw [HSUM2.out, hall]
            show (if Bat.first rs = v2 then _ else _) = _
            rw [if_neg (by rw [← HT1.out]; exact hT)]
          have HNO := Lib.hid hno; clear hno hall hT
          go_wp2
          go_ret
          exact ⟨X1, v3, v4, v5, _, rs, HROW14.out, HK14.out, HC14.out, .inr ⟨HNO.out, rfl⟩⟩
      · have hno : dec.summed base L = none := by
          rw [HSUM2.out, hall]
        have HNO := Lib.hid hno; clear hno hall
        go_wp2
        go_ret
        exact ⟨X1, v3, v4, v5, _, rs, HROW14.out, HK14.out, HC14.out, .inr ⟨HNO.out, rfl⟩⟩
    · have hc0 : ¬ c = 0 := by omega
      refine plan_group [false, false, false, false, false, true, true] [5, 6] 6 (by dsimp only [sel]) (by rfl) rfl (by kernel_rfl) (by kernel_rfl) HS.out ?_
      (repeat go_big_quiet_step (fail)); refine wpQuiet_nil ?_
      clear q0
      have hrec := fun wx (h : Below w11.heap.size w11 wx) => bat.drecords_any (A.map fun a => a.add D) (c - D) q v2 base R6 wx ((HATD.out _ (HATK.out _ (HC11.out.trans (chg_of (P := fun _ => False) h) (fun _ _ h => h.elim)))) ) HR6B.out (by rw [← HM6.out]; omega) (by unfold maxLen; omega) (by rw [← HM6.out]; omega) (by omega)
      rw [← HM6.out] at hrec
      have HREC := Lib.hid hrec; clear hrec
      refine plan_one [false, false, false, false, false, false, false, false, false, false, false, false, false, true] 13 5 (by dsimp only [sel]) (by rfl) rfl (by kernel_rfl) ?_; intro K1 hK1; go_wp2_with fail
      refine (HREC.out _ (bdrew (Below.refl _ w11) 1)).mono ?_
      rintro e w12 ⟨⟨v, rs, hrow, hres⟩, hb12⟩
      have HB12 := Lib.hid (show Below w11.heap.size w11 w12 from (bdrew (Below.refl _ w11) 1).trans hb12); clear hb12
      have HROW := Lib.hid (show RowR w12 w11.heap.size v rs from hrow); clear hrow
      obtain ⟨Av, cv, hveq, -⟩ := HROW.out.recsV
      subst hveq
      generalize hnv : rs.length = nv at *
      have HNV := Lib.hid hnv; clear hnv
      have HK12 := Lib.hid ((chg_of (P := fun _ => False) HB12.out).blk HK11.out id)
      obtain ⟨ok, he, hok⟩ : ∃ ok : Bool, e = .returned (.tuple #[.slice Av nv cv, .bool ok]) ∧ ((dec.all v2 base q R6 = some rs ∧ ok = true) ∨ (dec.all v2 base q R6 = none ∧ ok = false)) := by
        rcases hres with ⟨h1, h2⟩ | ⟨h1, h2⟩
        · exact ⟨true, h2, .inl ⟨h1, rfl⟩⟩
        · exact ⟨false, h2, .inr ⟨h1, rfl⟩⟩
      subst he
      clear hres
      have HOK := Lib.hid hok; clear hok
      go_wp2_with fail
      refine ⟨later_of (chg_of HB12.out), ?_⟩
      refine plan_group [false, false, false, false, false, false, false, false, false, false, false, false, false, false, true, true, true, true, true] [14, 15, 16, 17, 18] 0 (by dsimp only [sel]) (by rfl) rfl (by kernel_rfl) (by kernel_rfl) (later_of (chg_of HB12.out)) ?_
      (repeat go_big_quiet_step (fail)); refine wpQuiet_nil ?_
      refine wp_plan_end (by kernel_rfl) ?_
      refine hK _ _ ?_
      clear hK HS
      have g0 : w12.cell? ⟨pb, 5, none⟩ = some (.slice none 0 0) := HK12.out.cell 5 rfl
      have g1 : w12.frozen? ⟨pb, 5, none⟩ = false := HK12.out.frozen 5
      go_upto_region 12 with fail
      obtain ⟨w13, hw⟩ : ∃ w13, w13 = w12.setCell ⟨pb, 5, none⟩ (.slice Av nv cv) := ⟨_, rfl⟩
      rw [← hw]
      have hc13 : Chg w12 w13 (fun k => k = pb) := by rw [hw]; exact Chg.setCell w12 pb 5 _
      have hk13 : Blk w13 pb 42 #[.int .i64 base, .int .i64 X1, .int .i64 v3, .int .i64 v4, .int .i64 v5, .slice Av nv cv] := by rw [hw]; exact HK12.out.set 5 _
      clear hw g0 g1
      have hrow13 : RowR w13 w11.heap.size (.slice Av nv cv) rs := HROW.out.chg hc13 (fun g h1 h2 h3 => by have h3 : g = pb := h3; have := HK11.out.lt; omega)
      obtain ⟨Av', cv', hveq, hrv⟩ := hrow13.recsV
      rw [HNV.out] at hveq hrv
      obtain ⟨rfl, rfl⟩ : Av = Av' ∧ cv = cv' := by simpa using hveq
      clear hveq
      have HROW13 := Lib.hid hrow13; clear hrow13
      have HC13 := Lib.hid ((HC11.out.trans (chg_of (P := fun _ => False) HB12.out) (fun _ _ h => h.elim)).trans hc13 (fun _ _ h => h)); clear hc13
      have htm := bat.times_any ⟨base, X1, v3, v4, v5, rs⟩ Av cv w13 (by dsimp only; rw [HNV.out]; exact hrv)
      unfold Bat.hval at htm
      dsimp only at htm
      rw [HNV.out] at htm
      have HTM := Lib.hid htm; clear htm hrv
      have d0 : w13.cell? ⟨pb, 0, none⟩ = some (.int .i64 base) := hk13.cell 0 rfl
      have d1 : w13.cell? ⟨pb, 1, none⟩ = some (.int .i64 X1) := hk13.cell 1 rfl
      have d2 : w13.cell? ⟨pb, 2, none⟩ = some (.int .i64 v3) := hk13.cell 2 rfl
      have d3 : w13.cell? ⟨pb, 3, none⟩ = some (.int .i64 v4) := hk13.cell 3 rfl
      have d4 : w13.cell? ⟨pb, 4, none⟩ = some (.int .i64 v5) := hk13.cell 4 rfl
      have d5 : w13.cell? ⟨pb, 5, none⟩ = some (.slice Av nv cv) := hk13.cell 5 rfl
      have HK13 := Lib.hid hk13; clear hk13
      obtain ⟨T1, hT1⟩ : ∃ T1, T1 = Bat.first rs := ⟨_, rfl⟩
      obtain ⟨T2, hT2⟩ : ∃ T2, T2 = Bat.mostT rs := ⟨_, rfl⟩
      rw [← hT1, ← hT2] at HTM
      have HT1 := Lib.hid hT1; clear hT1 hT2
      go_wp2_with fail
      refine HTM.out.mono ?_
      rintro e w14 ⟨rfl, hb14⟩
      have HROW14 := Lib.hid ((HROW13.out.below hb14).up HC11.out.size)
      have HK14 := Lib.hid ((chg_of (P := fun _ => False) hb14).blk HK13.out id)
      have HC14 := Lib.hid (HC13.out.trans (chg_of (P := fun _ => False) hb14) (fun _ _ h => h.elim)); clear hb14 d0 d1 d2 d3 d4 d5
      rcases HOK.out with ⟨hall, rfl⟩ | ⟨hall, rfl⟩
      · by_cases hT : T1 = v2
        · have hd : (T1 == v2) = true := by simpa using hT
          have hyes : dec.summed base L = some ⟨base, X1, v3, v4, v5, rs⟩ := by
            rw [HSUM2.out, hall]
            show (if Bat.first rs = v2 then _ else _) = _
            rw [if_pos (by rw [← HT1.out]; exact hT), HX1.out]
          have HYES := Lib.hid hyes; clear hyes hall hT
          go_wp2
          go_ret
          exact ⟨X1, v3, v4, v5, _, rs, HROW14.out, HK14.out, HC14.out, .inl ⟨HYES.out, rfl⟩⟩
        · have hd : (T1 == v2) = false := by simpa using hT
          have hno : dec.summed base L = none := by
            rw [HSUM2.out, hall]
            show (if Bat.first rs = v2 then _ else _) = _
            rw [if_neg (by rw [← HT1.out]; exact hT)]
          have HNO := Lib.hid hno; clear hno hall hT
          go_wp2
          go_ret
          exact ⟨X1, v3, v4, v5, _, rs, HROW14.out, HK14.out, HC14.out, .inr ⟨HNO.out, rfl⟩⟩
      · have hno : dec.summed base L = none := by
          rw [HSUM2.out, hall]
        have HNO := Lib.hid hno; clear hno hall
        go_wp2
        go_ret
        exact ⟨X1, v3, v4, v5, _, rs, HROW14.out, HK14.out, HC14.out, .inr ⟨HNO.out, rfl⟩⟩

theorem rd.fixed_ok {L : List Nat} {e : Int} {s : Nat} (h : (rd.fixed L e s).2.2 = 0) : e = 0 ∧ (rd.fixed L e s).2.1 = L.drop s ∧ s ≤ L.length ∧ (rd.fixed L e s).1 = ((wire.val (L.take s) : Nat) : Int) := by
  unfold rd.fixed at h ⊢
  by_cases he : e ≠ 0
  · rw [if_pos he] at h
    exact absurd h he
  · rw [if_neg he] at h ⊢
    by_cases hb : rd.fbad L s
    · rw [if_pos hb] at h
      cases h
    · rw [if_neg hb]
      refine ⟨by omega, by simp, ?_, by simp⟩
      unfold rd.fbad at hb
      omega
theorem rd.fixed_lt {L : List Nat} (hb : ∀ x ∈ L, x < 256) (e : Int) : (rd.fixed L e 4).1 < 4294967296 := by
  unfold rd.fixed
  split
  · show (0 : Int) < 4294967296; decide
  · split
    · show (0 : Int) < 4294967296; decide
    · have h := wire.val_lt (L.take 4) (fun x hx => hb x (List.mem_of_mem_take hx))
      have h2 : (256 : Nat) ^ (L.take 4).length ≤ 256 ^ 4 := Nat.pow_le_pow_right (by decide) (by rw [List.length_take]; omega)
      have h3 : (256 : Nat) ^ 4 = 4294967296 := by decide
      show ((wire.val (L.take 4) : Nat) : Int) < 4294967296
      omega
theorem rd.fixed_byte {L : List Nat} (hb : ∀ x ∈ L, x < 256) (e s : Int) : ∀ x ∈ (rd.fixed L e s).2.1, x < 256 := fun x hx => hb x ((rd.fixed_suf L e s).subset hx)

/-- What First reads: the batch, and of how many bytes. -/
def dec.g1 (L : List Nat) := rd.fixed L 0 8
def dec.g2 (L : List Nat) := rd.fixed (dec.g1 L).2.1 (dec.g1 L).2.2 4
def dec.g3 (L : List Nat) := rd.fixed (dec.g2 L).2.1 (dec.g2 L).2.2 4
/-- The bytes that are summed, if so many stand behind the length. -/
def dec.sum (L : List Nat) (n : Nat) : List Nat := (L.take (12 + n)).drop 16
def dec.first (L : List Nat) : Option (Bat × Nat) :=
  if (dec.g2 L).2.2 ≠ 0 ∨ ((dec.g2 L).2.1.length : Int) < (dec.g2 L).1 ∨ 65536 < 12 + (dec.g2 L).1 then none else
  if (dec.g2 L).1 < 4 ∨ (dec.g3 L).1 ≠ ((crc.more 0 (dec.sum L (dec.g2 L).1.toNat) : Nat) : Int) then none else
  match dec.summed (dec.g1 L).1 (dec.sum L (dec.g2 L).1.toNat) with
  | none => none
  | some b => if b.check ≠ 0 then none else some (b, 12 + (dec.g2 L).1.toNat)

set_option maxRecDepth 20000 in
set_option maxHeartbeats 4000000 in
theorem bat.first_any (A : Option Addr) (c : Nat) (L : List Nat) (w : World) (hat : At w A L.length (byteAt L)) (hb : ∀ x ∈ L, x < 256) (hn : L.length ≤ c) (hc : c ≤ maxLen) :
    Calls Try.prog 57 #[.slice A L.length c] w fun e w' => ((dec.first L = none ∧ e = .returned (.tuple #[.agg #[.int .i64 0, .int .i64 0, .int .i64 0, .int .i64 0, .int .i64 0, .slice none 0 0], .int .i64 0, .int .i64 2])) ∨
      (∃ b u A' c', dec.first L = some (b, u) ∧ RowR w' w.heap.size (.slice A' b.recs.length c') b.recs ∧ e = .returned (.tuple #[b.hval A' b.recs.length c', .int .i64 (u : Nat), .int .i64 0]))) ∧ Below w.heap.size w w' := by
  have hbor := fun wx (h : Below w.heap.size w wx) => wire.borrow_at A c L wx (hat.below h (Nat.le_refl _)) hn hc hb
  have HBOR := Lib.hid hbor; clear hbor
  unfold maxLen at hc
  obtain ⟨v1, hv1⟩ : ∃ v, v = (dec.g1 L).1 := ⟨_, rfl⟩
  obtain ⟨R1, hR1⟩ : ∃ v, v = (dec.g1 L).2.1 := ⟨_, rfl⟩
  obtain ⟨E1, hE1⟩ : ∃ v, v = (dec.g1 L).2.2 := ⟨_, rfl⟩
  obtain ⟨v2, hv2⟩ : ∃ v, v = (dec.g2 L).1 := ⟨_, rfl⟩
  obtain ⟨R2, hR2⟩ : ∃ v, v = (dec.g2 L).2.1 := ⟨_, rfl⟩
  obtain ⟨E2, hE2⟩ : ∃ v, v = (dec.g2 L).2.2 := ⟨_, rfl⟩
  obtain ⟨v3, hv3⟩ : ∃ v, v = (dec.g3 L).1 := ⟨_, rfl⟩
  obtain ⟨R3, hR3⟩ : ∃ v, v = (dec.g3 L).2.1 := ⟨_, rfl⟩
  obtain ⟨E3, hE3⟩ : ∃ v, v = (dec.g3 L).2.2 := ⟨_, rfl⟩
  have b1 : ∀ x ∈ R1, x < 256 := by rw [hR1]; exact rd.fixed_byte hb _ _
  have b2 : ∀ x ∈ R2, x < 256 := by rw [hR2]; exact rd.fixed_byte (by rw [← hR1]; exact b1) _ _
  have h20 : 0 ≤ v2 := by rw [hv2]; exact rd.fixed_pos _ _ _
  have h21 : v2 < 4294967296 := by rw [hv2]; exact rd.fixed_lt (by rw [← hR1]; exact b1) _
  have h30 : 0 ≤ v3 := by rw [hv3]; exact rd.fixed_pos _ _ _
  have h31 : v3 < 4294967296 := by rw [hv3]; exact rd.fixed_lt (by rw [← hR2]; exact b2) _
  have hok : E2 = 0 → 12 ≤ L.length ∧ R2.length = L.length - 12 := fun h => by
    obtain ⟨g1, g2, g3, -⟩ := rd.fixed_ok (s := 4) (show (rd.fixed (dec.g1 L).2.1 (dec.g1 L).2.2 (4 : Nat)).2.2 = 0 by rw [← h, hE2]; rfl)
    obtain ⟨-, k2, k3, -⟩ := rd.fixed_ok (s := 8) (show (rd.fixed L 0 (8 : Nat)).2.2 = 0 from g1)
    have e1 : (dec.g1 L).2.1 = L.drop 8 := k2
    rw [e1, List.length_drop] at g3
    refine ⟨by omega, ?_⟩
    have e2 : R2 = (L.drop 8).drop 4 := by rw [hR2, ← e1]; exact g2
    rw [e2, List.length_drop, List.length_drop]
    omega
  have hfst : dec.first L = if E2 ≠ 0 ∨ (R2.length : Int) < v2 ∨ 65536 < 12 + v2 then none else if v2 < 4 ∨ v3 ≠ ((crc.more 0 (dec.sum L v2.toNat) : Nat) : Int) then none else match dec.summed v1 (dec.sum L v2.toNat) with | none => none | some b => if b.check ≠ 0 then none else some (b, 12 + v2.toNat) := by
    rw [hE2, hv2, hR2, hv3, hv1]; rfl
  have HFST := Lib.hid hfst; clear hfst
  have HOK := Lib.hid hok; clear hok b1 b2
  have hfx1 : ∀ (r : Nat) (A : Option Addr) (c : Nat) (w : World), Rd w r A c L 0 → Calls Try.prog 72 #[.pointer (some ⟨r, 0, none⟩), .int .i64 8] w (RdPost w r (.int .i64 v1) R1 E1) := fun r A c w h => by
    rw [hv1, hR1, hE1]
    exact wire.rfixed_any r A c _ _ 8 w h
  have hfx2 : ∀ (r : Nat) (A : Option Addr) (c : Nat) (w : World), Rd w r A c R1 E1 → Calls Try.prog 72 #[.pointer (some ⟨r, 0, none⟩), .int .i64 4] w (RdPost w r (.int .i64 v2) R2 E2) := fun r A c w h => by
    rw [hv2, hR2, hE2]
    rw [hR1, hE1] at h
    exact wire.rfixed_any r A c _ _ 4 w h
  have hfx3 : ∀ (r : Nat) (A : Option Addr) (c : Nat) (w : World), Rd w r A c R2 E2 → Calls Try.prog 72 #[.pointer (some ⟨r, 0, none⟩), .int .i64 4] w (RdPost w r (.int .i64 v3) R3 E3) := fun r A c w h => by
    rw [hv3, hR3, hE3]
    rw [hR2, hE2] at h
    exact wire.rfixed_any r A c _ _ 4 w h
  have HFX1 := Lib.hid hfx1; clear hfx1
  have HFX2 := Lib.hid hfx2; clear hfx2
  have HFX3 := Lib.hid hfx3; clear hfx3
  clear hv1 hv2 hv3 hR1 hR2 hR3 hE1 hE2 hE3
  have HAT := Lib.hid hat; clear hat
  have HB := Lib.hid hb; clear hb
  obtain ⟨nL, hnL⟩ : ∃ nL, nL = L.length := ⟨_, rfl⟩
  rw [← hnL] at hn HBOR HAT ⊢
  have HNL := Lib.hid hnL; clear hnL
  go_enter Try.func57, Try.ntmps57
  go_wp2_with fail
  obtain ⟨w1, hw1⟩ : ∃ w1, w1 = w.alloc (.cells #[.int .i64 0, .int .i64 0, .int .i64 0, .int .i64 0, .int .i64 0, .slice none 0 0] 42) := ⟨_, rfl⟩
  try rw [← hw1]
  have hbk : Blk w1 w.heap.size 42 #[.int .i64 0, .int .i64 0, .int .i64 0, .int .i64 0, .int .i64 0, .slice none 0 0] := by rw [hw1]; exact Blk.new _ _ _
  have hb1 : Below w.heap.size w w1 := by rw [hw1]; exact (Below.refl _ w).alloc (Nat.le_refl _) _
  clear hw1
  have HBK := Lib.hid hbk; clear hbk
  have HB1 := Lib.hid hb1; clear hb1
  refine (HBOR.out w1 HB1.out).mono ?_
  rintro e w2 ⟨r, rfl, hr, hle, hb2⟩
  have hne : w.heap.size ≠ r := by have := HBK.out.lt; omega
  have hge : w.heap.size ≤ r := by have := HBK.out.lt; omega
  have HR2 := Lib.hid hr; clear hr
  have HK2 := Lib.hid ((chg_of (P := fun _ => False) hb2).blk HBK.out id)
  have HB2 := Lib.hid (HB1.out.trans (hb2.mono HB1.out.size)); clear hb2 HBOR
  go_wp2_with fail
  refine (HFX1.out r _ _ w2 HR2.out).mono ?_
  rintro e w3 ⟨rfl, ⟨A3, c3, hr3⟩, hc3⟩
  have HK3 := Lib.hid (hc3.blk HK2.out hne)
  have HB3 := Lib.hid (HB2.out.trans (hc3.below HB2.out.size fun k hk => by have hk : k = r := hk; omega))
  have HR3 := Lib.hid hr3; clear hr3 hc3 HFX1
  have g0 : w3.cell? ⟨w.heap.size, 0, none⟩ = some (.int .i64 0) := HK3.out.cell 0 rfl
  have g1 : w3.frozen? ⟨w.heap.size, 0, none⟩ = false := HK3.out.frozen 0
  go_upto_region 3 with fail
  obtain ⟨w4, hw4⟩ : ∃ w4, w4 = w3.setCell ⟨w.heap.size, 0, none⟩ (.int .i64 v1) := ⟨_, rfl⟩
  rw [← hw4]
  have hch : Chg w3 w4 (fun k => k = w.heap.size) := by rw [hw4]; exact Chg.setCell w3 _ 0 _
  have HK4 := Lib.hid (show Blk w4 w.heap.size 42 #[.int .i64 v1, .int .i64 0, .int .i64 0, .int .i64 0, .int .i64 0, .slice none 0 0] by rw [hw4]; exact HK3.out.set 0 _)
  have HR4 := Lib.hid (HR3.out.past HK3.out hch (fun h => hne h.symm))
  have HB4 := Lib.hid (HB3.out.trans (hch.below HB3.out.size fun k hk => by have hk : k = w.heap.size := hk; omega))
  clear hw4 hch g0 g1
  go_wp2_with fail
  refine (HFX2.out r _ _ w4 HR4.out).mono ?_
  rintro e w5 ⟨rfl, ⟨A5, c5, hr5⟩, hc5⟩
  have HK5 := Lib.hid (hc5.blk HK4.out hne)
  have HB5 := Lib.hid (HB4.out.trans (hc5.below HB4.out.size fun k hk => by have hk : k = r := hk; omega))
  have HR5 := Lib.hid hr5; clear hr5 hc5 HFX2
  clear HK2 HK3 HK4 HR2 HR3 HR4 HB2 HB3 HB4
  have hzero : ∀ (wx : World) (x0 x1 x2 x3 x4 : Int) (v : Value), Blk wx w.heap.size 42 #[.int .i64 x0, .int .i64 x1, .int .i64 x2, .int .i64 x3, .int .i64 x4, v] → Below w.heap.size w wx →
      Blk ((((((wx.setCell ⟨w.heap.size, 0, none⟩ (.int .i64 0)).setCell ⟨w.heap.size, 1, none⟩ (.int .i64 0)).setCell ⟨w.heap.size, 2, none⟩ (.int .i64 0)).setCell ⟨w.heap.size, 3, none⟩ (.int .i64 0)).setCell ⟨w.heap.size, 4, none⟩ (.int .i64 0)).setCell ⟨w.heap.size, 5, none⟩ (.slice none 0 0)) w.heap.size 42 #[.int .i64 0, .int .i64 0, .int .i64 0, .int .i64 0, .int .i64 0, .slice none 0 0] ∧
      Below w.heap.size w ((((((wx.setCell ⟨w.heap.size, 0, none⟩ (.int .i64 0)).setCell ⟨w.heap.size, 1, none⟩ (.int .i64 0)).setCell ⟨w.heap.size, 2, none⟩ (.int .i64 0)).setCell ⟨w.heap.size, 3, none⟩ (.int .i64 0)).setCell ⟨w.heap.size, 4, none⟩ (.int .i64 0)).setCell ⟨w.heap.size, 5, none⟩ (.slice none 0 0)) := fun wx x0 x1 x2 x3 x4 v h hb =>
    ⟨((((((h.set 0 (.int .i64 0)).set 1 (.int .i64 0)).set 2 (.int .i64 0)).set 3 (.int .i64 0)).set 4 (.int .i64 0)).set 5 (.slice none 0 0)),
      (below_set (below_set (below_set (below_set (below_set (below_set ⟨hb, hb.size⟩ (Nat.le_refl _) 0 _) (Nat.le_refl _) 1 _) (Nat.le_refl _) 2 _) (Nat.le_refl _) 3 _) (Nat.le_refl _) 4 _) (Nat.le_refl _) 5 _).1⟩
  have HZERO := Lib.hid hzero; clear hzero
  go_wp2_with fail
  refine (wire.err_any r A5 c5 R2 E2 w5 HR5.out).mono ?_
  rintro e wx ⟨rfl, rfl⟩
  obtain ⟨m2, hm2⟩ : ∃ m2, m2 = R2.length := ⟨_, rfl⟩
  have hlft := wire.left_any r A5 c5 R2 E2 w5 HR5.out
  rw [← hm2] at hlft
  have HLFT := Lib.hid hlft; clear hlft
  have HM2 := Lib.hid hm2
  by_cases hbad : E2 ≠ 0 ∨ (m2 : Int) < v2 ∨ 65536 < 12 + v2
  · have hno : dec.first L = none := by rw [HFST.out, if_pos (by rw [← hm2]; exact hbad)]
    have HNO := Lib.hid hno; clear hno hm2
    have hb3 : (E2 != 0) = true ∨ ((E2 != 0) = false ∧ (m2 : Int) < v2) ∨ ((E2 != 0) = false ∧ ¬ (m2 : Int) < v2 ∧ 65536 < 12 + v2) := by
      by_cases h1 : E2 = 0
      · rcases hbad with h | h | h
        · exact absurd h1 h
        · exact .inr (.inl ⟨by simpa using h1, h⟩)
        · by_cases h2 : (m2 : Int) < v2
          · exact .inr (.inl ⟨by simpa using h1, h2⟩)
          · exact .inr (.inr ⟨by simpa using h1, h2, h⟩)
      · exact .inl (by simpa using h1)
    clear hbad
    have z0 : w5.cell? ⟨w.heap.size, 0, none⟩ = some (.int .i64 v1) := HK5.out.cell 0 rfl
    have y0 : w5.frozen? ⟨w.heap.size, 0, none⟩ = false := HK5.out.frozen 0
    have z1 : w5.cell? ⟨w.heap.size, 1, none⟩ = some (.int .i64 0) := HK5.out.cell 1 rfl
    have y1 : w5.frozen? ⟨w.heap.size, 1, none⟩ = false := HK5.out.frozen 1
    have z2 : w5.cell? ⟨w.heap.size, 2, none⟩ = some (.int .i64 0) := HK5.out.cell 2 rfl
    have y2 : w5.frozen? ⟨w.heap.size, 2, none⟩ = false := HK5.out.frozen 2
    have z3 : w5.cell? ⟨w.heap.size, 3, none⟩ = some (.int .i64 0) := HK5.out.cell 3 rfl
    have y3 : w5.frozen? ⟨w.heap.size, 3, none⟩ = false := HK5.out.frozen 3
    have z4 : w5.cell? ⟨w.heap.size, 4, none⟩ = some (.int .i64 0) := HK5.out.cell 4 rfl
    have y4 : w5.frozen? ⟨w.heap.size, 4, none⟩ = false := HK5.out.frozen 4
    have z5 : w5.cell? ⟨w.heap.size, 5, none⟩ = some (.slice none 0 0) := HK5.out.cell 5 rfl
    have y5 : w5.frozen? ⟨w.heap.size, 5, none⟩ = false := HK5.out.frozen 5
    rcases hb3 with h1 | ⟨h1, h2⟩ | ⟨h1, h2, h3⟩
    · go_wp2_with fail
      have hz := HZERO.out w5 _ _ _ _ _ _ HK5.out HB5.out
      refine bodyPost_ret (res_cell3 rfl _ _ _ _ _ rfl hz.1 Try.underlying42 rfl bat.info6) rfl ?_
      exact ⟨.inl ⟨HNO.out, rfl⟩, hz.2⟩
    all_goals
      go_wp2_with fail
      refine HLFT.out.mono ?_
      rintro e wx ⟨rfl, rfl⟩
      go_wp2_with fail
      have hz := HZERO.out w5 _ _ _ _ _ _ HK5.out HB5.out
      refine bodyPost_ret (res_cell3 rfl _ _ _ _ _ rfl hz.1 Try.underlying42 rfl bat.info6) rfl ?_
      exact ⟨.inl ⟨HNO.out, rfl⟩, hz.2⟩
  · have hE : E2 = 0 := by omega
    have hfst2 : dec.first L = if v2 < 4 ∨ v3 ≠ ((crc.more 0 (dec.sum L v2.toNat) : Nat) : Int) then none else match dec.summed v1 (dec.sum L v2.toNat) with | none => none | some b => if b.check ≠ 0 then none else some (b, 12 + v2.toNat) := by rw [HFST.out, if_neg (by rw [← hm2]; exact hbad)]
    have HFST2 := Lib.hid hfst2; clear hfst2 HFST
    obtain ⟨hl12, hl2⟩ := HOK.out hE
    rw [← HNL.out] at hl12 hl2
    have h1 : (E2 != 0) = false := by simp; omega
    have h2 : ¬ (m2 : Int) < v2 := by omega
    have h3 : ¬ 65536 < 12 + v2 := by omega
    have hm12 : m2 = nL - 12 := by rw [hm2]; exact hl2
    obtain ⟨u, hu⟩ : ∃ u : Nat, 12 + v2 = (u : Int) := ⟨(12 + v2).toNat, by omega⟩
    have hfit : u ≤ nL := by omega
    have hu2 : v2.toNat = u - 12 := by omega
    have hu3 : 12 ≤ u := by omega
    have hu4 : u ≤ 65536 := by omega
    have HU := Lib.hid (And.intro hu hu2); clear hu hu2
    clear hbad hm2 hl2 HOK hE hm12
    go_wp2_with fail
    refine HLFT.out.mono ?_
    rintro e wx ⟨rfl, rfl⟩
    clear HLFT
    go_wp2_with fail
    rw [HU.out.1]
    rw [HU.out.2] at HFST2
    have hv24 : v2 < 4 ↔ u < 16 := by have := HU.out.1; omega
    have HV24 := Lib.hid hv24; clear hv24
    clear h1 h2 h3
    generalize decide ((m2 : Int) < v2) = b25
    refine (HFX3.out r _ _ w5 HR5.out).mono ?_
    rintro e w6 ⟨rfl, -, hc6⟩
    have HK6 := Lib.hid (hc6.blk HK5.out hne)
    have HB6 := Lib.hid (HB5.out.trans (hc6.below HB5.out.size fun k hk => by have hk : k = r := hk; omega))
    clear hc6 HFX3 HK5 HB5 HR5
    by_cases h4 : v2 < 4
    · have hno : dec.first L = none := by rw [HFST2.out, if_pos (.inl h4)]
      have HNO := Lib.hid hno; clear hno
      have z0 : w6.cell? ⟨w.heap.size, 0, none⟩ = some (.int .i64 v1) := HK6.out.cell 0 rfl
      have y0 : w6.frozen? ⟨w.heap.size, 0, none⟩ = false := HK6.out.frozen 0
      have z1 : w6.cell? ⟨w.heap.size, 1, none⟩ = some (.int .i64 0) := HK6.out.cell 1 rfl
      have y1 : w6.frozen? ⟨w.heap.size, 1, none⟩ = false := HK6.out.frozen 1
      have z2 : w6.cell? ⟨w.heap.size, 2, none⟩ = some (.int .i64 0) := HK6.out.cell 2 rfl
      have y2 : w6.frozen? ⟨w.heap.size, 2, none⟩ = false := HK6.out.frozen 2
      have z3 : w6.cell? ⟨w.heap.size, 3, none⟩ = some (.int .i64 0) := HK6.out.cell 3 rfl
      have y3 : w6.frozen? ⟨w.heap.size, 3, none⟩ = false := HK6.out.frozen 3
      have z4 : w6.cell? ⟨w.heap.size, 4, none⟩ = some (.int .i64 0) := HK6.out.cell 4 rfl
      have y4 : w6.frozen? ⟨w.heap.size, 4, none⟩ = false := HK6.out.frozen 4
      have z5 : w6.cell? ⟨w.heap.size, 5, none⟩ = some (.slice none 0 0) := HK6.out.cell 5 rfl
      have y5 : w6.frozen? ⟨w.heap.size, 5, none⟩ = false := HK6.out.frozen 5
      go_wp2_with fail
      have hz := HZERO.out w6 _ _ _ _ _ _ HK6.out HB6.out
      refine bodyPost_ret (res_cell3 rfl _ _ _ _ _ rfl hz.1 Try.underlying42 rfl bat.info6) rfl ?_
      exact ⟨.inl ⟨HNO.out, rfl⟩, hz.2⟩
    · have hu16 : 16 ≤ u := by have := HV24.out; omega
      obtain ⟨S, hS⟩ : ∃ S, S = dec.sum L (u - 12) := ⟨_, rfl⟩
      have hSl : S.length = u - 16 := by
        rw [hS]
        unfold dec.sum
        rw [List.length_drop, List.length_take, ← HNL.out]
        omega
      have hSb : ∀ x ∈ S, x < 256 := by
        rw [hS]
        exact fun x hx => HB.out x (List.mem_of_mem_take (List.mem_of_mem_drop hx))
      have hSp : Piece A L (A.map fun a => a.add 16) S := by
        rw [hS]
        unfold dec.sum
        have h12 : 12 + (u - 12) = u := by omega
        rw [h12]
        exact (Piece.take A L u (by rw [← HNL.out]; exact hfit)).trans (Piece.drop A _ 16)
      rw [← hS] at HFST2
      have HSB := Lib.hid hSb; clear hSb hS
      have HSP := Lib.hid hSp; clear hSp
      have HSL := Lib.hid hSl; clear hSl
      obtain ⟨C, hC⟩ : ∃ C, C = crc.more 0 S := ⟨_, rfl⟩
      have hCs : crc.sums [S] = C := by rw [hC]; rfl
      have hClt : C < 4294967296 := by rw [hC]; exact crc.more_lt _ _
      rw [← hC] at HFST2
      have HCS := Lib.hid hCs; clear hCs hC
      by_cases hc16 : c = 16
      · subst hc16
        obtain rfl : u = 16 := by omega
        have hds := fun wx (h : Below w6.heap.size w6 wx) (hp : Blk wx w.heap.size 42 #[.int .i64 v1, .int .i64 0, .int .i64 0, .int .i64 0, .int .i64 0, .slice none 0 0]) => bat.dsummed_any A 0 w.heap.size v1 S wx ((fun wx _ => At.none0 (by rw [HSL.out]) : Piece A L A S) wx (by rw [← HNL.out]; exact HAT.out.below (HB6.out.trans (h.mono HB6.out.size)) (Nat.le_refl _))) HSB.out (by rw [HSL.out]; omega) (by unfold maxLen; omega) (by rw [HSL.out]; omega) hp
        have hbyt := fun wx (h : Below w6.heap.size w6 wx) => (fun wx _ => At.none0 (by rw [HSL.out]) : Piece A L A S) wx (by rw [← HNL.out]; exact HAT.out.below (HB6.out.trans (h.mono HB6.out.size)) (Nat.le_refl _))
        rw [show S.length = 0 by rw [HSL.out]] at hds hbyt
        have HDS := Lib.hid hds; clear hds
        have HBYT := Lib.hid hbyt; clear hbyt
        go_wp2_with fail
        obtain ⟨w7, hw7⟩ : ∃ w7, w7 = w6.alloc (.cells #[.slice A (0) 0] 33) := ⟨_, rfl⟩
        show Calls Try.prog 46 #[.slice (some ⟨w6.heap.size, 0, none⟩) 1 1] (w6.alloc (.cells #[.slice A (0) 0] 33)) _
        rw [← hw7]
        have hrow : At w7 (some ⟨w6.heap.size, 0, none⟩) 1 (fun _ => .slice A (0) 0) := by rw [hw7]; exact At.one w6 _ _
        have hb7 : Below w6.heap.size w6 w7 := by rw [hw7]; exact (Below.refl _ w6).alloc (Nat.le_refl _) _
        clear hw7
        have hby : Bytes w7 (.slice A (0) 0) S := ⟨A, 0, by rw [HSL.out], by rw [HSL.out]; omega, by rw [HSL.out]; exact HBYT.out w7 hb7, HSB.out⟩
        have HBY := Lib.hid hby; clear hby
        have HK7 := Lib.hid ((chg_of (P := fun _ => False) hb7).blk HK6.out id)
        have HB67 := Lib.hid hb7
        have HB7 := Lib.hid (HB6.out.trans (hb7.mono HB6.out.size)); clear hb7
        refine (crc.sum_any (some ⟨w6.heap.size, 0, none⟩) 1 1 (fun _ => .slice A (0) 0) [S] w7 (by omega) rfl hrow (fun j hj => by (obtain rfl : j = 0 := by omega); exact HBY.out)).mono ?_
        rintro e wx ⟨rfl, rfl⟩
        rw [HCS.out]
        clear hrow
        by_cases hne3 : v3 = (C : Int)
        · have hd3 : (v3 != (C : Int)) = false := by simp [hne3]
          have hf3 : dec.first L = match dec.summed v1 S with | none => none | some b => if b.check ≠ 0 then none else some (b, 16) := by
            rw [HFST2.out, if_neg (fun h => h.elim (fun h => by omega) (fun h => h hne3)), show 12 + (16 - 12) = 16 by omega]
          have HF3 := Lib.hid hf3; clear hf3 hne3
          go_wp2_with fail
          refine (HDS.out w7 HB67.out HK7.out).mono ?_
          rintro e w8 ⟨x1, x2, x3, x4, v, rs, hrow, hk8, hc8, hres⟩
          obtain ⟨Av, cv, rfl, hrv⟩ := hrow.recsV
          have HB8 := Lib.hid (HB7.out.trans (hc8.below HB7.out.size fun k hk => by have hk : k = w.heap.size := hk; omega))
          have HK8 := Lib.hid hk8; clear hk8 hc8
          have hlt7 : w.heap.size < w7.heap.size := HK7.out.lt
          have hck := bat.check_any ⟨v1, x1, x2, x3, x4, rs⟩ Av cv w8 hrv
          unfold Bat.hval at hck
          dsimp only at hck
          obtain ⟨nv, hnv⟩ : ∃ nv, nv = rs.length := ⟨_, rfl⟩
          rw [← hnv] at hck HK8 hrv
          have HNV := Lib.hid hnv; clear hnv
          have HROW := Lib.hid hrow; clear hrow
          clear hrv
          rcases hres with ⟨hsm, rfl⟩ | ⟨hsm, rfl⟩
          · obtain ⟨KK, hKK⟩ : ∃ KK, KK = (⟨v1, x1, x2, x3, x4, rs⟩ : Bat).check := ⟨_, rfl⟩
            rw [← hKK] at hck
            have HCK := Lib.hid hck; clear hck
            have hf4 : dec.first L = if KK ≠ 0 then none else some (⟨v1, x1, x2, x3, x4, rs⟩, 16) := by rw [HF3.out, hsm, hKK]
            have HF4 := Lib.hid hf4; clear hf4 hKK hsm
            have z0 : w8.cell? ⟨w.heap.size, 0, none⟩ = some (.int .i64 v1) := HK8.out.cell 0 rfl
            have z1 : w8.cell? ⟨w.heap.size, 1, none⟩ = some (.int .i64 x1) := HK8.out.cell 1 rfl
            have z2 : w8.cell? ⟨w.heap.size, 2, none⟩ = some (.int .i64 x2) := HK8.out.cell 2 rfl
            have z3 : w8.cell? ⟨w.heap.size, 3, none⟩ = some (.int .i64 x3) := HK8.out.cell 3 rfl
            have z4 : w8.cell? ⟨w.heap.size, 4, none⟩ = some (.int .i64 x4) := HK8.out.cell 4 rfl
            have z5 : w8.cell? ⟨w.heap.size, 5, none⟩ = some (.slice Av nv cv) := HK8.out.cell 5 rfl
            go_wp2_with fail
            refine HCK.out.mono ?_
            rintro e w9 ⟨rfl, hb9⟩
            have HK9 := Lib.hid ((chg_of (P := fun _ => False) hb9).blk HK8.out id)
            have HB9 := Lib.hid (HB8.out.trans (hb9.mono HB8.out.size))
            have HROW9 := Lib.hid (HROW.out.below hb9); clear hb9 z0 z1 z2 z3 z4 z5
            have z0 : w9.cell? ⟨w.heap.size, 0, none⟩ = some (.int .i64 v1) := HK9.out.cell 0 rfl
            have z1 : w9.cell? ⟨w.heap.size, 1, none⟩ = some (.int .i64 x1) := HK9.out.cell 1 rfl
            have z2 : w9.cell? ⟨w.heap.size, 2, none⟩ = some (.int .i64 x2) := HK9.out.cell 2 rfl
            have z3 : w9.cell? ⟨w.heap.size, 3, none⟩ = some (.int .i64 x3) := HK9.out.cell 3 rfl
            have z4 : w9.cell? ⟨w.heap.size, 4, none⟩ = some (.int .i64 x4) := HK9.out.cell 4 rfl
            have z5 : w9.cell? ⟨w.heap.size, 5, none⟩ = some (.slice Av nv cv) := HK9.out.cell 5 rfl
            have y0 : w9.frozen? ⟨w.heap.size, 0, none⟩ = false := HK9.out.frozen 0
            have y1 : w9.frozen? ⟨w.heap.size, 1, none⟩ = false := HK9.out.frozen 1
            have y2 : w9.frozen? ⟨w.heap.size, 2, none⟩ = false := HK9.out.frozen 2
            have y3 : w9.frozen? ⟨w.heap.size, 3, none⟩ = false := HK9.out.frozen 3
            have y4 : w9.frozen? ⟨w.heap.size, 4, none⟩ = false := HK9.out.frozen 4
            have y5 : w9.frozen? ⟨w.heap.size, 5, none⟩ = false := HK9.out.frozen 5
            by_cases hK0 : KK = 0
            · have hdk : (KK != 0) = false := by simpa using hK0
              have hyes : dec.first L = some (⟨v1, x1, x2, x3, x4, rs⟩, 16) := by rw [HF4.out, if_neg (fun h => h hK0)]
              have HYES := Lib.hid hyes; clear hyes hK0
              have hself : ∃ wz, wz = (((((w9.setCell ⟨w.heap.size, 0, none⟩ (.int .i64 v1)).setCell ⟨w.heap.size, 1, none⟩ (.int .i64 x1)).setCell ⟨w.heap.size, 2, none⟩ (.int .i64 x2)).setCell ⟨w.heap.size, 3, none⟩ (.int .i64 x3)).setCell ⟨w.heap.size, 4, none⟩ (.int .i64 x4)).setCell ⟨w.heap.size, 5, none⟩ (.slice Av nv cv) ∧
                  Blk wz w.heap.size 42 #[.int .i64 v1, .int .i64 x1, .int .i64 x2, .int .i64 x3, .int .i64 x4, .slice Av nv cv] ∧ Below w.heap.size w wz ∧ RowR wz w.heap.size (.slice Av nv cv) rs := by
                refine ⟨_, rfl, ((((((HK9.out.set 0 _).set 1 _).set 2 _).set 3 _).set 4 _).set 5 _), (below_set (below_set (below_set (below_set (below_set (below_set ⟨HB9.out, HB9.out.size⟩ (Nat.le_refl _) 0 _) (Nat.le_refl _) 1 _) (Nat.le_refl _) 2 _) (Nat.le_refl _) 3 _) (Nat.le_refl _) 4 _) (Nat.le_refl _) 5 _).1, ?_⟩
                have hcc : Chg w9 ((((((w9.setCell ⟨w.heap.size, 0, none⟩ (.int .i64 v1)).setCell ⟨w.heap.size, 1, none⟩ (.int .i64 x1)).setCell ⟨w.heap.size, 2, none⟩ (.int .i64 x2)).setCell ⟨w.heap.size, 3, none⟩ (.int .i64 x3)).setCell ⟨w.heap.size, 4, none⟩ (.int .i64 x4)).setCell ⟨w.heap.size, 5, none⟩ (.slice Av nv cv)) (fun k => k = w.heap.size) :=
                  (((((Chg.setCell w9 w.heap.size 0 _).trans (Chg.setCell _ w.heap.size 1 _) (fun _ _ h => h)).trans (Chg.setCell _ w.heap.size 2 _) (fun _ _ h => h)).trans (Chg.setCell _ w.heap.size 3 _) (fun _ _ h => h)).trans (Chg.setCell _ w.heap.size 4 _) (fun _ _ h => h)).trans (Chg.setCell _ w.heap.size 5 _) (fun _ _ h => h)
                have hrz := (HROW9.out.chg hcc (fun g h1 _ h3 => by have h3 : g = w.heap.size := h3; omega)).up (Nat.le_of_lt hlt7)
                rw [← HNV.out] at hrz
                exact hrz
              obtain ⟨wz, hwz, hz⟩ := hself
              have HWZ := Lib.hid (And.intro hwz hz); clear hwz hz
              go_wp2_with fail
              have hblk := HWZ.out.2.1
              rw [HWZ.out.1] at hblk
              refine bodyPost_ret (res_cell3 rfl _ _ _ _ _ rfl hblk Try.underlying42 rfl bat.info6) rfl ?_
              rw [← HWZ.out.1]
              refine ⟨.inr ⟨⟨v1, x1, x2, x3, x4, rs⟩, 16, Av, cv, HYES.out, ?_, ?_⟩, HWZ.out.2.2.1⟩
              · dsimp only
                rw [← HNV.out]
                exact HWZ.out.2.2.2
              · unfold Bat.hval
                dsimp only
                rw [← HNV.out]
                rfl
            · have hdk : (KK != 0) = true := by simpa using hK0
              have hno : dec.first L = none := by rw [HF4.out, if_pos hK0]
              have HNO := Lib.hid hno; clear hno hK0
              go_wp2_with fail
              have hz := HZERO.out w9 _ _ _ _ _ _ HK9.out HB9.out
              refine bodyPost_ret (res_cell3 rfl _ _ _ _ _ rfl hz.1 Try.underlying42 rfl bat.info6) rfl ?_
              exact ⟨.inl ⟨HNO.out, rfl⟩, hz.2⟩
          · have hno : dec.first L = none := by rw [HF3.out, hsm]
            have HNO := Lib.hid hno; clear hno hsm hck
            have z0 : w8.cell? ⟨w.heap.size, 0, none⟩ = some (.int .i64 v1) := HK8.out.cell 0 rfl
            have z1 : w8.cell? ⟨w.heap.size, 1, none⟩ = some (.int .i64 x1) := HK8.out.cell 1 rfl
            have z2 : w8.cell? ⟨w.heap.size, 2, none⟩ = some (.int .i64 x2) := HK8.out.cell 2 rfl
            have z3 : w8.cell? ⟨w.heap.size, 3, none⟩ = some (.int .i64 x3) := HK8.out.cell 3 rfl
            have z4 : w8.cell? ⟨w.heap.size, 4, none⟩ = some (.int .i64 x4) := HK8.out.cell 4 rfl
            have z5 : w8.cell? ⟨w.heap.size, 5, none⟩ = some (.slice Av nv cv) := HK8.out.cell 5 rfl
            have y0 : w8.frozen? ⟨w.heap.size, 0, none⟩ = false := HK8.out.frozen 0
            have y1 : w8.frozen? ⟨w.heap.size, 1, none⟩ = false := HK8.out.frozen 1
            have y2 : w8.frozen? ⟨w.heap.size, 2, none⟩ = false := HK8.out.frozen 2
            have y3 : w8.frozen? ⟨w.heap.size, 3, none⟩ = false := HK8.out.frozen 3
            have y4 : w8.frozen? ⟨w.heap.size, 4, none⟩ = false := HK8.out.frozen 4
            have y5 : w8.frozen? ⟨w.heap.size, 5, none⟩ = false := HK8.out.frozen 5
            go_wp2_with fail
            have hz := HZERO.out w8 _ _ _ _ _ _ HK8.out HB8.out
            refine bodyPost_ret (res_cell3 rfl _ _ _ _ _ rfl hz.1 Try.underlying42 rfl bat.info6) rfl ?_
            exact ⟨.inl ⟨HNO.out, rfl⟩, hz.2⟩
        · have hd3 : (v3 != (C : Int)) = true := by simpa using hne3
          have hno : dec.first L = none := by rw [HFST2.out, if_pos (.inr hne3)]
          have HNO := Lib.hid hno; clear hno hne3
          have z0 : w7.cell? ⟨w.heap.size, 0, none⟩ = some (.int .i64 v1) := HK7.out.cell 0 rfl
          have y0 : w7.frozen? ⟨w.heap.size, 0, none⟩ = false := HK7.out.frozen 0
          have z1 : w7.cell? ⟨w.heap.size, 1, none⟩ = some (.int .i64 0) := HK7.out.cell 1 rfl
          have y1 : w7.frozen? ⟨w.heap.size, 1, none⟩ = false := HK7.out.frozen 1
          have z2 : w7.cell? ⟨w.heap.size, 2, none⟩ = some (.int .i64 0) := HK7.out.cell 2 rfl
          have y2 : w7.frozen? ⟨w.heap.size, 2, none⟩ = false := HK7.out.frozen 2
          have z3 : w7.cell? ⟨w.heap.size, 3, none⟩ = some (.int .i64 0) := HK7.out.cell 3 rfl
          have y3 : w7.frozen? ⟨w.heap.size, 3, none⟩ = false := HK7.out.frozen 3
          have z4 : w7.cell? ⟨w.heap.size, 4, none⟩ = some (.int .i64 0) := HK7.out.cell 4 rfl
          have y4 : w7.frozen? ⟨w.heap.size, 4, none⟩ = false := HK7.out.frozen 4
          have z5 : w7.cell? ⟨w.heap.size, 5, none⟩ = some (.slice none 0 0) := HK7.out.cell 5 rfl
          have y5 : w7.frozen? ⟨w.heap.size, 5, none⟩ = false := HK7.out.frozen 5
          go_wp2_with fail
          have hz := HZERO.out w7 _ _ _ _ _ _ HK7.out HB7.out
          refine bodyPost_ret (res_cell3 rfl _ _ _ _ _ rfl hz.1 Try.underlying42 rfl bat.info6) rfl ?_
          exact ⟨.inl ⟨HNO.out, rfl⟩, hz.2⟩
      · have hc0 : ¬ c = 0 := by omega
        have hds := fun wx (h : Below w6.heap.size w6 wx) (hp : Blk wx w.heap.size 42 #[.int .i64 v1, .int .i64 0, .int .i64 0, .int .i64 0, .int .i64 0, .slice none 0 0]) => bat.dsummed_any (A.map fun a => a.add 16) (c - 16) w.heap.size v1 S wx (HSP.out wx (by rw [← HNL.out]; exact HAT.out.below (HB6.out.trans (h.mono HB6.out.size)) (Nat.le_refl _))) HSB.out (by rw [HSL.out]; omega) (by unfold maxLen; omega) (by rw [HSL.out]; omega) hp
        have hbyt := fun wx (h : Below w6.heap.size w6 wx) => HSP.out wx (by rw [← HNL.out]; exact HAT.out.below (HB6.out.trans (h.mono HB6.out.size)) (Nat.le_refl _))
        rw [show S.length = u - 16 by rw [HSL.out]] at hds hbyt
        have HDS := Lib.hid hds; clear hds
        have HBYT := Lib.hid hbyt; clear hbyt
        go_wp2_with fail
        obtain ⟨w7, hw7⟩ : ∃ w7, w7 = w6.alloc (.cells #[.slice (A.map fun a => a.add 16) (u - 16) (c - 16)] 33) := ⟨_, rfl⟩
        show Calls Try.prog 46 #[.slice (some ⟨w6.heap.size, 0, none⟩) 1 1] (w6.alloc (.cells #[.slice (A.map fun a => a.add 16) (u - 16) (c - 16)] 33)) _
        rw [← hw7]
        have hrow : At w7 (some ⟨w6.heap.size, 0, none⟩) 1 (fun _ => .slice (A.map fun a => a.add 16) (u - 16) (c - 16)) := by rw [hw7]; exact At.one w6 _ _
        have hb7 : Below w6.heap.size w6 w7 := by rw [hw7]; exact (Below.refl _ w6).alloc (Nat.le_refl _) _
        clear hw7
        have hby : Bytes w7 (.slice (A.map fun a => a.add 16) (u - 16) (c - 16)) S := ⟨(A.map fun a => a.add 16), (c - 16), by rw [HSL.out], by rw [HSL.out]; omega, by rw [HSL.out]; exact HBYT.out w7 hb7, HSB.out⟩
        have HBY := Lib.hid hby; clear hby
        have HK7 := Lib.hid ((chg_of (P := fun _ => False) hb7).blk HK6.out id)
        have HB67 := Lib.hid hb7
        have HB7 := Lib.hid (HB6.out.trans (hb7.mono HB6.out.size)); clear hb7
        refine (crc.sum_any (some ⟨w6.heap.size, 0, none⟩) 1 1 (fun _ => .slice (A.map fun a => a.add 16) (u - 16) (c - 16)) [S] w7 (by omega) rfl hrow (fun j hj => by (obtain rfl : j = 0 := by omega); exact HBY.out)).mono ?_
        rintro e wx ⟨rfl, rfl⟩
        rw [HCS.out]
        clear hrow
        by_cases hne3 : v3 = (C : Int)
        · have hd3 : (v3 != (C : Int)) = false := by simp [hne3]
          have hf3 : dec.first L = match dec.summed v1 S with | none => none | some b => if b.check ≠ 0 then none else some (b, u) := by
            rw [HFST2.out, if_neg (fun h => h.elim (fun h => by omega) (fun h => h hne3)), show 12 + (u - 12) = u by omega]
          have HF3 := Lib.hid hf3; clear hf3 hne3
          go_wp2_with fail
          refine (HDS.out w7 HB67.out HK7.out).mono ?_
          rintro e w8 ⟨x1, x2, x3, x4, v, rs, hrow, hk8, hc8, hres⟩
          obtain ⟨Av, cv, rfl, hrv⟩ := hrow.recsV
          have HB8 := Lib.hid (HB7.out.trans (hc8.below HB7.out.size fun k hk => by have hk : k = w.heap.size := hk; omega))
          have HK8 := Lib.hid hk8; clear hk8 hc8
          have hlt7 : w.heap.size < w7.heap.size := HK7.out.lt
          have hck := bat.check_any ⟨v1, x1, x2, x3, x4, rs⟩ Av cv w8 hrv
          unfold Bat.hval at hck
          dsimp only at hck
          obtain ⟨nv, hnv⟩ : ∃ nv, nv = rs.length := ⟨_, rfl⟩
          rw [← hnv] at hck HK8 hrv
          have HNV := Lib.hid hnv; clear hnv
          have HROW := Lib.hid hrow; clear hrow
          clear hrv
          rcases hres with ⟨hsm, rfl⟩ | ⟨hsm, rfl⟩
          · obtain ⟨KK, hKK⟩ : ∃ KK, KK = (⟨v1, x1, x2, x3, x4, rs⟩ : Bat).check := ⟨_, rfl⟩
            rw [← hKK] at hck
            have HCK := Lib.hid hck; clear hck
            have hf4 : dec.first L = if KK ≠ 0 then none else some (⟨v1, x1, x2, x3, x4, rs⟩, u) := by rw [HF3.out, hsm, hKK]
            have HF4 := Lib.hid hf4; clear hf4 hKK hsm
            have z0 : w8.cell? ⟨w.heap.size, 0, none⟩ = some (.int .i64 v1) := HK8.out.cell 0 rfl
            have z1 : w8.cell? ⟨w.heap.size, 1, none⟩ = some (.int .i64 x1) := HK8.out.cell 1 rfl
            have z2 : w8.cell? ⟨w.heap.size, 2, none⟩ = some (.int .i64 x2) := HK8.out.cell 2 rfl
            have z3 : w8.cell? ⟨w.heap.size, 3, none⟩ = some (.int .i64 x3) := HK8.out.cell 3 rfl
            have z4 : w8.cell? ⟨w.heap.size, 4, none⟩ = some (.int .i64 x4) := HK8.out.cell 4 rfl
            have z5 : w8.cell? ⟨w.heap.size, 5, none⟩ = some (.slice Av nv cv) := HK8.out.cell 5 rfl
            go_wp2_with fail
            refine HCK.out.mono ?_
            rintro e w9 ⟨rfl, hb9⟩
            have HK9 := Lib.hid ((chg_of (P := fun _ => False) hb9).blk HK8.out id)
            have HB9 := Lib.hid (HB8.out.trans (hb9.mono HB8.out.size))
            have HROW9 := Lib.hid (HROW.out.below hb9); clear hb9 z0 z1 z2 z3 z4 z5
            have z0 : w9.cell? ⟨w.heap.size, 0, none⟩ = some (.int .i64 v1) := HK9.out.cell 0 rfl
            have z1 : w9.cell? ⟨w.heap.size, 1, none⟩ = some (.int .i64 x1) := HK9.out.cell 1 rfl
            have z2 : w9.cell? ⟨w.heap.size, 2, none⟩ = some (.int .i64 x2) := HK9.out.cell 2 rfl
            have z3 : w9.cell? ⟨w.heap.size, 3, none⟩ = some (.int .i64 x3) := HK9.out.cell 3 rfl
            have z4 : w9.cell? ⟨w.heap.size, 4, none⟩ = some (.int .i64 x4) := HK9.out.cell 4 rfl
            have z5 : w9.cell? ⟨w.heap.size, 5, none⟩ = some (.slice Av nv cv) := HK9.out.cell 5 rfl
            have y0 : w9.frozen? ⟨w.heap.size, 0, none⟩ = false := HK9.out.frozen 0
            have y1 : w9.frozen? ⟨w.heap.size, 1, none⟩ = false := HK9.out.frozen 1
            have y2 : w9.frozen? ⟨w.heap.size, 2, none⟩ = false := HK9.out.frozen 2
            have y3 : w9.frozen? ⟨w.heap.size, 3, none⟩ = false := HK9.out.frozen 3
            have y4 : w9.frozen? ⟨w.heap.size, 4, none⟩ = false := HK9.out.frozen 4
            have y5 : w9.frozen? ⟨w.heap.size, 5, none⟩ = false := HK9.out.frozen 5
            by_cases hK0 : KK = 0
            · have hdk : (KK != 0) = false := by simpa using hK0
              have hyes : dec.first L = some (⟨v1, x1, x2, x3, x4, rs⟩, u) := by rw [HF4.out, if_neg (fun h => h hK0)]
              have HYES := Lib.hid hyes; clear hyes hK0
              have hself : ∃ wz, wz = (((((w9.setCell ⟨w.heap.size, 0, none⟩ (.int .i64 v1)).setCell ⟨w.heap.size, 1, none⟩ (.int .i64 x1)).setCell ⟨w.heap.size, 2, none⟩ (.int .i64 x2)).setCell ⟨w.heap.size, 3, none⟩ (.int .i64 x3)).setCell ⟨w.heap.size, 4, none⟩ (.int .i64 x4)).setCell ⟨w.heap.size, 5, none⟩ (.slice Av nv cv) ∧
                  Blk wz w.heap.size 42 #[.int .i64 v1, .int .i64 x1, .int .i64 x2, .int .i64 x3, .int .i64 x4, .slice Av nv cv] ∧ Below w.heap.size w wz ∧ RowR wz w.heap.size (.slice Av nv cv) rs := by
                refine ⟨_, rfl, ((((((HK9.out.set 0 _).set 1 _).set 2 _).set 3 _).set 4 _).set 5 _), (below_set (below_set (below_set (below_set (below_set (below_set ⟨HB9.out, HB9.out.size⟩ (Nat.le_refl _) 0 _) (Nat.le_refl _) 1 _) (Nat.le_refl _) 2 _) (Nat.le_refl _) 3 _) (Nat.le_refl _) 4 _) (Nat.le_refl _) 5 _).1, ?_⟩
                have hcc : Chg w9 ((((((w9.setCell ⟨w.heap.size, 0, none⟩ (.int .i64 v1)).setCell ⟨w.heap.size, 1, none⟩ (.int .i64 x1)).setCell ⟨w.heap.size, 2, none⟩ (.int .i64 x2)).setCell ⟨w.heap.size, 3, none⟩ (.int .i64 x3)).setCell ⟨w.heap.size, 4, none⟩ (.int .i64 x4)).setCell ⟨w.heap.size, 5, none⟩ (.slice Av nv cv)) (fun k => k = w.heap.size) :=
                  (((((Chg.setCell w9 w.heap.size 0 _).trans (Chg.setCell _ w.heap.size 1 _) (fun _ _ h => h)).trans (Chg.setCell _ w.heap.size 2 _) (fun _ _ h => h)).trans (Chg.setCell _ w.heap.size 3 _) (fun _ _ h => h)).trans (Chg.setCell _ w.heap.size 4 _) (fun _ _ h => h)).trans (Chg.setCell _ w.heap.size 5 _) (fun _ _ h => h)
                have hrz := (HROW9.out.chg hcc (fun g h1 _ h3 => by have h3 : g = w.heap.size := h3; omega)).up (Nat.le_of_lt hlt7)
                rw [← HNV.out] at hrz
                exact hrz
              obtain ⟨wz, hwz, hz⟩ := hself
              have HWZ := Lib.hid (And.intro hwz hz); clear hwz hz
              go_wp2_with fail
              have hblk := HWZ.out.2.1
              rw [HWZ.out.1] at hblk
              refine bodyPost_ret (res_cell3 rfl _ _ _ _ _ rfl hblk Try.underlying42 rfl bat.info6) rfl ?_
              rw [← HWZ.out.1]
              refine ⟨.inr ⟨⟨v1, x1, x2, x3, x4, rs⟩, u, Av, cv, HYES.out, ?_, ?_⟩, HWZ.out.2.2.1⟩
              · dsimp only
                rw [← HNV.out]
                exact HWZ.out.2.2.2
              · unfold Bat.hval
                dsimp only
                rw [← HNV.out]
                rfl
            · have hdk : (KK != 0) = true := by simpa using hK0
              have hno : dec.first L = none := by rw [HF4.out, if_pos hK0]
              have HNO := Lib.hid hno; clear hno hK0
              go_wp2_with fail
              have hz := HZERO.out w9 _ _ _ _ _ _ HK9.out HB9.out
              refine bodyPost_ret (res_cell3 rfl _ _ _ _ _ rfl hz.1 Try.underlying42 rfl bat.info6) rfl ?_
              exact ⟨.inl ⟨HNO.out, rfl⟩, hz.2⟩
          · have hno : dec.first L = none := by rw [HF3.out, hsm]
            have HNO := Lib.hid hno; clear hno hsm hck
            have z0 : w8.cell? ⟨w.heap.size, 0, none⟩ = some (.int .i64 v1) := HK8.out.cell 0 rfl
            have z1 : w8.cell? ⟨w.heap.size, 1, none⟩ = some (.int .i64 x1) := HK8.out.cell 1 rfl
            have z2 : w8.cell? ⟨w.heap.size, 2, none⟩ = some (.int .i64 x2) := HK8.out.cell 2 rfl
            have z3 : w8.cell? ⟨w.heap.size, 3, none⟩ = some (.int .i64 x3) := HK8.out.cell 3 rfl
            have z4 : w8.cell? ⟨w.heap.size, 4, none⟩ = some (.int .i64 x4) := HK8.out.cell 4 rfl
            have z5 : w8.cell? ⟨w.heap.size, 5, none⟩ = some (.slice Av nv cv) := HK8.out.cell 5 rfl
            have y0 : w8.frozen? ⟨w.heap.size, 0, none⟩ = false := HK8.out.frozen 0
            have y1 : w8.frozen? ⟨w.heap.size, 1, none⟩ = false := HK8.out.frozen 1
            have y2 : w8.frozen? ⟨w.heap.size, 2, none⟩ = false := HK8.out.frozen 2
            have y3 : w8.frozen? ⟨w.heap.size, 3, none⟩ = false := HK8.out.frozen 3
            have y4 : w8.frozen? ⟨w.heap.size, 4, none⟩ = false := HK8.out.frozen 4
            have y5 : w8.frozen? ⟨w.heap.size, 5, none⟩ = false := HK8.out.frozen 5
            go_wp2_with fail
            have hz := HZERO.out w8 _ _ _ _ _ _ HK8.out HB8.out
            refine bodyPost_ret (res_cell3 rfl _ _ _ _ _ rfl hz.1 Try.underlying42 rfl bat.info6) rfl ?_
            exact ⟨.inl ⟨HNO.out, rfl⟩, hz.2⟩
        · have hd3 : (v3 != (C : Int)) = true := by simpa using hne3
          have hno : dec.first L = none := by rw [HFST2.out, if_pos (.inr hne3)]
          have HNO := Lib.hid hno; clear hno hne3
          have z0 : w7.cell? ⟨w.heap.size, 0, none⟩ = some (.int .i64 v1) := HK7.out.cell 0 rfl
          have y0 : w7.frozen? ⟨w.heap.size, 0, none⟩ = false := HK7.out.frozen 0
          have z1 : w7.cell? ⟨w.heap.size, 1, none⟩ = some (.int .i64 0) := HK7.out.cell 1 rfl
          have y1 : w7.frozen? ⟨w.heap.size, 1, none⟩ = false := HK7.out.frozen 1
          have z2 : w7.cell? ⟨w.heap.size, 2, none⟩ = some (.int .i64 0) := HK7.out.cell 2 rfl
          have y2 : w7.frozen? ⟨w.heap.size, 2, none⟩ = false := HK7.out.frozen 2
          have z3 : w7.cell? ⟨w.heap.size, 3, none⟩ = some (.int .i64 0) := HK7.out.cell 3 rfl
          have y3 : w7.frozen? ⟨w.heap.size, 3, none⟩ = false := HK7.out.frozen 3
          have z4 : w7.cell? ⟨w.heap.size, 4, none⟩ = some (.int .i64 0) := HK7.out.cell 4 rfl
          have y4 : w7.frozen? ⟨w.heap.size, 4, none⟩ = false := HK7.out.frozen 4
          have z5 : w7.cell? ⟨w.heap.size, 5, none⟩ = some (.slice none 0 0) := HK7.out.cell 5 rfl
          have y5 : w7.frozen? ⟨w.heap.size, 5, none⟩ = false := HK7.out.frozen 5
          go_wp2_with fail
          have hz := HZERO.out w7 _ _ _ _ _ _ HK7.out HB7.out
          refine bodyPost_ret (res_cell3 rfl _ _ _ _ _ rfl hz.1 Try.underlying42 rfl bat.info6) rfl ?_
          exact ⟨.inl ⟨HNO.out, rfl⟩, hz.2⟩

def dec.decode (L : List Nat) : Option Bat := match dec.first L with | none => none | some (b, u) => if u = L.length then some b else none

set_option maxRecDepth 20000 in
set_option maxHeartbeats 2000000 in
theorem bat.decode_any (A : Option Addr) (c : Nat) (L : List Nat) (w : World) (hat : At w A L.length (byteAt L)) (hb : ∀ x ∈ L, x < 256) (hn : L.length ≤ c) (hc : c ≤ maxLen) :
    Calls Try.prog 35 #[.slice A L.length c] w fun e w' => ((dec.decode L = none ∧ e = .returned (.tuple #[.agg #[.int .i64 0, .int .i64 0, .int .i64 0, .int .i64 0, .int .i64 0, .slice none 0 0], .int .i64 2])) ∨
      (∃ b A' c', dec.decode L = some b ∧ RecsV w' (.slice A' b.recs.length c') b.recs ∧ e = .returned (.tuple #[b.hval A' b.recs.length c', .int .i64 0]))) ∧ Below w.heap.size w w' := by
  have hf := fun wx (h : Below w.heap.size w wx) => bat.first_any A c L wx (hat.below h (Nat.le_refl _)) hb hn hc
  have hdn : dec.first L = none → dec.decode L = none := fun h => by unfold dec.decode; rw [h]
  have hds : ∀ b u, dec.first L = some (b, u) → dec.decode L = if u = L.length then some b else none := fun b u h => by unfold dec.decode; rw [h]
  have HDN := Lib.hid hdn; clear hdn
  have HDS := Lib.hid hds; clear hds
  have HF := Lib.hid hf; clear hf hat hb
  unfold maxLen at hc
  generalize L.length = n at *
  go_enter Try.func35, Try.ntmps35
  go_wp2_with fail
  obtain ⟨w1, hw1⟩ : ∃ w1, w1 = w.alloc (.cells #[.int .i64 0, .int .i64 0, .int .i64 0, .int .i64 0, .int .i64 0, .slice none 0 0] 42) := ⟨_, rfl⟩
  try rw [← hw1]
  have hbk : Blk w1 w.heap.size 42 #[.int .i64 0, .int .i64 0, .int .i64 0, .int .i64 0, .int .i64 0, .slice none 0 0] := by rw [hw1]; exact Blk.new _ _ _
  have hb1 : Below w.heap.size w w1 := by rw [hw1]; exact (Below.refl _ w).alloc (Nat.le_refl _) _
  clear hw1
  have hlt1 : w.heap.size < w1.heap.size := hbk.lt
  refine (HF.out w1 hb1).mono ?_
  rintro e w5 ⟨hres, hb2⟩
  have hk5 := (chg_of (P := fun _ => False) hb2).blk hbk id
  have HB5 := Lib.hid (hb1.trans (hb2.mono hb1.size)); clear hb1 hb2 hbk
  have hlt := hk5.lt
  have HK5 := Lib.hid hk5; clear hk5
  have hk6 : ∀ cs, Blk (w5.alloc (.cells cs 42)) w.heap.size 42 #[.int .i64 0, .int .i64 0, .int .i64 0, .int .i64 0, .int .i64 0, .slice none 0 0] := fun cs => (Chg.alloc w5 (.cells cs 42) (fun _ => False)).blk HK5.out id
  have HK6 := Lib.hid hk6; clear hk6
  rcases hres with ⟨hno, rfl⟩ | ⟨b, u, A', c', hyes, hrv, rfl⟩
  · have HNO := Lib.hid (HDN.out hno); clear hno
    go_wp2_with (show Go.wpList _ _ _ (⟨_, .store _ (.tmp 2) (.tmp 21), _, _, _, _⟩ :: _) _ _; go_loud (refine wpList_store_row rfl 42 (.tmp 2) (.tmp 21) rfl w.heap.size #[.int .i64 0, .int .i64 0, .int .i64 0, .int .i64 0, .int .i64 0, .slice none 0 0] rfl rfl _ _ (HK6.out _) bat.info6 rfl (by simp [Value.oneCell']) ?_))
    have hk7 := (HK6.out #[.int .i64 0, .int .i64 0, .int .i64 0, .int .i64 0, .int .i64 0, .slice none 0 0]).row #[.int .i64 0, .int .i64 0, .int .i64 0, .int .i64 0, .int .i64 0, .slice none 0 0]
    have hb6 := HB5.out.alloc HB5.out.size (.cells #[.int .i64 0, .int .i64 0, .int .i64 0, .int .i64 0, .int .i64 0, .slice none 0 0] 42)
    refine bodyPost_ret (res_cell2 rfl _ _ _ _ _ rfl hk7 Try.underlying42 rfl bat.info6) rfl ?_
    exact ⟨.inl ⟨HNO.out, rfl⟩, hb6.trans ((Chg.setRow _ _ _).below hb6.size fun k hk => by have hk : k = w.heap.size := hk; omega)⟩
  · have hd := HDS.out b u hyes
    obtain ⟨nv, hnv⟩ : ∃ nv, nv = b.recs.length := ⟨_, rfl⟩
    have hrv2 := hrv
    unfold Bat.hval
    rw [← hnv] at hrv2 ⊢
    have HNV := Lib.hid hnv; clear hnv hyes hrv
    have HRV := Lib.hid hrv2; clear hrv2
    have hb6 := HB5.out.alloc HB5.out.size (.cells #[.int .i64 b.base, .int .i64 b.last, .int .i64 b.prod, .int .i64 b.epoch, .int .i64 b.seq, .slice A' nv c'] 42)
    have HB6 := Lib.hid hb6; clear hb6
    by_cases hu : u = n
    · subst hu
      rw [if_pos rfl] at hd
      have HD := Lib.hid hd; clear hd
      go_wp2_with (show Go.wpList _ _ _ (⟨_, .store _ (.tmp 2) (.tmp 22), _, _, _, _⟩ :: _) _ _; go_loud (refine wpList_store_row rfl 42 (.tmp 2) (.tmp 22) rfl w.heap.size #[.int .i64 b.base, .int .i64 b.last, .int .i64 b.prod, .int .i64 b.epoch, .int .i64 b.seq, .slice A' nv c'] rfl rfl _ _ (HK6.out _) bat.info6 rfl (by simp [Value.oneCell']) ?_))
      have hk7 := (HK6.out #[.int .i64 b.base, .int .i64 b.last, .int .i64 b.prod, .int .i64 b.epoch, .int .i64 b.seq, .slice A' nv c']).row #[.int .i64 b.base, .int .i64 b.last, .int .i64 b.prod, .int .i64 b.epoch, .int .i64 b.seq, .slice A' nv c']
      refine bodyPost_ret (res_cell2 rfl _ _ _ _ _ rfl hk7 Try.underlying42 rfl bat.info6) rfl ?_
      refine ⟨.inr ⟨b, A', c', HD.out, ?_, ?_⟩, HB6.out.trans ((Chg.setRow _ _ _).below HB6.out.size fun k hk => by have hk : k = w.heap.size := hk; omega)⟩
      · rw [← HNV.out]
        obtain ⟨Av', cv', hveq, hrv⟩ := (HRV.out.chg ((Chg.alloc w5 (.cells #[.int .i64 b.base, .int .i64 b.last, .int .i64 b.prod, .int .i64 b.epoch, .int .i64 b.seq, .slice A' nv c'] 42) (fun k => k = w.heap.size)).trans (Chg.setRow _ w.heap.size _) (fun _ _ h => h)) (fun g h1 _ h3 => by have h3 : g = w.heap.size := h3; omega)).recsV
        rw [← HNV.out] at hveq hrv
        obtain ⟨rfl, rfl⟩ : A' = Av' ∧ c' = cv' := by simpa using hveq
        exact hrv
      · unfold Bat.hval
        rw [← HNV.out]
        rfl
    · have hd2 : ((u : Int) != (n : Int)) = true := by simp; omega
      rw [if_neg hu] at hd
      have HD := Lib.hid hd; clear hd hu
      go_wp2_with (show Go.wpList _ _ _ (⟨_, .store _ (.tmp 2) (.tmp 21), _, _, _, _⟩ :: _) _ _; go_loud (refine wpList_store_row rfl 42 (.tmp 2) (.tmp 21) rfl w.heap.size #[.int .i64 0, .int .i64 0, .int .i64 0, .int .i64 0, .int .i64 0, .slice none 0 0] rfl rfl _ _ (HK6.out _) bat.info6 rfl (by simp [Value.oneCell']) ?_))
      have hk7 := (HK6.out #[.int .i64 b.base, .int .i64 b.last, .int .i64 b.prod, .int .i64 b.epoch, .int .i64 b.seq, .slice A' nv c']).row #[.int .i64 0, .int .i64 0, .int .i64 0, .int .i64 0, .int .i64 0, .slice none 0 0]
      refine bodyPost_ret (res_cell2 rfl _ _ _ _ _ rfl hk7 Try.underlying42 rfl bat.info6) rfl ?_
      exact ⟨.inl ⟨HD.out, rfl⟩, HB6.out.trans ((Chg.setRow _ _ _).below HB6.out.size fun k hk => by have hk : k = w.heap.size := hk; omega)⟩

theorem dec.num_put (n : Int) (Z : List Nat) (h : i64ok n) : dec.num (num.put n ++ Z) = (n, Z, true) := by
  obtain ⟨u, hg, hz⟩ := num.getL_some n Z h.1 h.2
  unfold dec.num
  rw [hg]
  show (num.zag u, (num.put n ++ Z).drop (num.put n).length, true) = _
  rw [hz, List.drop_left]
theorem dec.field_put (has : Bool) (M Z : List Nat) (h : has = false → M = []) (hl : M.length ≤ 1000000) : dec.field (bat.field has M ++ Z) = some (has, M, Z) := by
  cases has with
  | false =>
    obtain rfl := h rfl
    have hn := dec.num_put (-1) Z (by unfold i64ok; omega)
    show dec.field (num.put (-1) ++ Z) = _
    unfold dec.field
    simp only [hn]
    rw [if_neg (by simp), if_pos trivial]
  | true =>
    have hn := dec.num_put (M.length : Int) (M ++ Z) (by unfold i64ok; omega)
    show dec.field (num.put (M.length : Int) ++ M ++ Z) = _
    rw [List.append_assoc]
    unfold dec.field
    simp only [hn, Int.toNat_natCast]
    rw [if_neg (by simp; omega), if_neg (by omega), List.take_left, List.drop_left]
theorem wrap_in {n : Int} (h : i64ok n) : wrap64 n = n := by
  unfold RowKit.wrap64
  unfold i64ok at h
  omega
theorem dec.rec_put {r : Rec} (ho : r.ok) (hk : r.hasKey = false → r.key = []) (hv : r.hasVal = false → r.val = []) {first base : Int} (h1 : 0 ≤ first) (h2 : first ≤ 1125899906842624) (h3 : 0 ≤ base) (h4 : base ≤ 4611686018427387904) (Z : List Nat) :
    dec.rec first base (r.bytes first base ++ Z) = some (r, Z) := by
  obtain ⟨t0, t1, o0, o1, k1, v1⟩ := id ho
  have hlen := Rec.rest_len r first base hk hv
  have hbd := Rec.body_le ho first base
  have hl : (r.rest first base).length ≤ 2240 := by omega
  rw [← Rec.rest_bytes r first base hk hv, List.append_assoc]
  have d1 := dec.num_put ((r.rest first base).length : Int) (r.rest first base ++ Z) (by unfold i64ok; omega)
  have e1 : (r.rest first base ++ Z).take (r.rest first base).length = num.put (r.time - first) ++ (num.put (r.off - base) ++ (bat.field r.hasKey r.key ++ bat.field r.hasVal r.val)) := by
    rw [List.take_left]
    unfold Rec.rest
    simp only [List.append_assoc]
  have d2 := dec.num_put (r.time - first) (num.put (r.off - base) ++ (bat.field r.hasKey r.key ++ bat.field r.hasVal r.val)) (by unfold i64ok; omega)
  rw [← e1] at d2
  have d3 := dec.num_put (r.off - base) (bat.field r.hasKey r.key ++ bat.field r.hasVal r.val) (by unfold i64ok; omega)
  have f1 := dec.field_put r.hasKey r.key (bat.field r.hasVal r.val) hk (by omega)
  have f2 := dec.field_put r.hasVal r.val [] hv (by omega)
  rw [List.append_nil] at f2
  rw [dec.rec7 d1 (by rw [List.length_append]; omega) d2 d3 f1 f2 rfl, List.drop_left, wrap_in (by unfold i64ok; omega), wrap_in (by unfold i64ok; omega)]
  rw [show base + (r.off - base) = r.off by omega, show first + (r.time - first) = r.time by omega]
theorem dec.recs_put {first base : Int} (h1 : 0 ≤ first) (h2 : first ≤ 1125899906842624) (h3 : 0 ≤ base) (h4 : base ≤ 4611686018427387904) (Z : List Nat) :
    ∀ rs : List Rec, (∀ r ∈ rs, r.ok ∧ (r.hasKey = false → r.key = []) ∧ (r.hasVal = false → r.val = [])) → dec.recs first base rs.length ((rs.map (Rec.bytes first base)).flatten ++ Z) = some (rs, Z)
  | [], _ => rfl
  | r :: rs, h => by
    obtain ⟨g1, g2, g3⟩ := h r (List.mem_cons_self ..)
    have ih := dec.recs_put h1 h2 h3 h4 Z rs fun x hx => h x (List.mem_cons_of_mem _ hx)
    show dec.recs first base (rs.length + 1) _ = _
    rw [dec.recs_succ, List.map_cons, List.flatten_cons, List.append_assoc, dec.rec_put g1 g2 g3 h1 h2 h3 h4]
    show Option.map _ (dec.recs first base rs.length _) = _
    rw [ih]
    rfl
theorem Bat.first_ok {b : Bat} (ho : ∀ r ∈ b.recs, r.ok) : 0 ≤ Bat.first b.recs ∧ Bat.first b.recs ≤ 1125899906842624 := by
  cases hr : b.recs with
  | nil => exact ⟨Int.le_refl 0, by show (0 : Int) ≤ 1125899906842624; omega⟩
  | cons r rs =>
    have := ho r (by rw [hr]; exact List.mem_cons_self ..)
    exact ⟨this.1, this.2.1⟩
theorem fixed_be {v : Int} {size : Nat} {R : List Nat} (h0 : 0 ≤ v) (hf : wire.fit v size = true) (hn : v ≤ 9223372036854775807) : rd.fixed (wire.be v.toNat size ++ R) 0 size = (v, R, 0) := by
  obtain ⟨k, rfl⟩ : ∃ k : Nat, v = (k : Int) := ⟨v.toNat, by omega⟩
  rw [Int.toNat_natCast]
  exact rd.fixed_be k size R hf hn
theorem dec.summed_put {b : Bat} (hc : b.check = 0) : dec.summed b.base b.summed = some b := by
  obtain ⟨hm, h100, ho, -⟩ := Bat.check_ok hc
  have hfl := Bat.flags_of hc
  obtain ⟨m0, m1, m2, m3, m4, m5, m6, m7, m8, m9, -⟩ := id hm
  obtain ⟨f0, f1⟩ := Bat.first_ok ho
  obtain ⟨P6, p6⟩ : ∃ P, P = (b.recs.map (Rec.bytes (Bat.first b.recs) b.base)).flatten := ⟨_, rfl⟩
  obtain ⟨P5, p5⟩ : ∃ P, P = wire.be b.recs.length 4 ++ P6 := ⟨_, rfl⟩
  obtain ⟨P4, p4⟩ : ∃ P, P = wire.be b.seq.toNat 4 ++ P5 := ⟨_, rfl⟩
  obtain ⟨P3, p3⟩ : ∃ P, P = wire.be b.epoch.toNat 2 ++ P4 := ⟨_, rfl⟩
  obtain ⟨P2, p2⟩ : ∃ P, P = wire.be b.prod.toNat 8 ++ P3 := ⟨_, rfl⟩
  obtain ⟨P1, p1⟩ : ∃ P, P = wire.be (Bat.first b.recs).toNat 8 ++ P2 := ⟨_, rfl⟩
  have hS : b.summed = wire.be (b.last - b.base).toNat 8 ++ P1 := by
    rw [p1, p2, p3, p4, p5, p6]
    unfold Bat.summed Bat.body Bat.head
    rw [List.take_length]
    simp only [List.append_assoc]
  have e1 : dec.f1 b.summed = (b.last - b.base, P1, 0) := by unfold dec.f1; rw [hS]; exact fixed_be (by omega) (by unfold wire.fit; simp; omega) (by omega)
  have e2 : dec.f2 b.summed = (Bat.first b.recs, P2, 0) := by unfold dec.f2; rw [e1, p1]; exact fixed_be f0 (by unfold wire.fit; simp; omega) (by omega)
  have e3 : dec.f3 b.summed = (b.prod, P3, 0) := by unfold dec.f3; rw [e2, p2]; exact fixed_be m4 (by unfold wire.fit; simp; omega) (by omega)
  have e4 : dec.f4 b.summed = (b.epoch, P4, 0) := by unfold dec.f4; rw [e3, p3]; exact fixed_be m6 (by unfold wire.fit; simp; omega) (by omega)
  have e5 : dec.f5 b.summed = (b.seq, P5, 0) := by unfold dec.f5; rw [e4, p4]; exact fixed_be m8 (by unfold wire.fit; simp; omega) (by omega)
  have e6 : dec.f6 b.summed = ((b.recs.length : Int), P6, 0) := by unfold dec.f6; rw [e5, p5]; exact rd.fixed_be _ 4 _ (by unfold wire.fit; simp; omega) (by omega)
  have hall : dec.all (Bat.first b.recs) b.base b.recs.length P6 = some b.recs := by
    rw [p6]
    have h := dec.recs_put f0 f1 m0 m1 [] b.recs fun r hr => ⟨ho r hr, hfl r hr⟩
    rw [List.append_nil] at h
    rw [dec.all_of h, if_pos rfl]
  unfold dec.summed
  rw [e6, e2, e1, e3, e4, e5]
  dsimp only
  rw [if_neg (by simp; omega), Int.toNat_natCast, hall]
  dsimp only
  rw [if_pos rfl, wrap_in (by unfold i64ok; omega), show b.base + (b.last - b.base) = b.last by omega]
theorem Bat.summed_le {b : Bat} (hc : b.check = 0) : b.bytes.length = 16 + b.summed.length ∧ b.bytes.length ≤ 65536 ∧ 34 ≤ b.summed.length := by
  have h1 := Bat.bytes_len b (Bat.flags_of hc)
  have h2 := (Bat.check_ok hc).2.2.2
  have h3 : b.front.length = 16 := by unfold Bat.front; simp only [List.length_append, wire.be_len]
  have h4 : b.bytes.length = b.front.length + b.summed.length := by unfold Bat.bytes; rw [List.length_append]
  refine ⟨by omega, by omega, ?_⟩
  unfold Bat.summed Bat.body
  rw [List.length_append, Bat.head_len]
  omega
theorem dec.first_put {b : Bat} (hc : b.check = 0) (Z : List Nat) : dec.first (b.bytes ++ Z) = some (b, b.bytes.length) := by
  obtain ⟨hm, h100, ho, -⟩ := Bat.check_ok hc
  obtain ⟨l1, l2, l3⟩ := Bat.summed_le hc
  obtain ⟨m0, m1, -⟩ := id hm
  obtain ⟨P3, p3⟩ : ∃ P, P = b.summed ++ Z := ⟨_, rfl⟩
  obtain ⟨P2, p2⟩ : ∃ P, P = wire.be (crc.more 0 b.summed) 4 ++ P3 := ⟨_, rfl⟩
  obtain ⟨P1, p1⟩ : ∃ P, P = wire.be (4 + b.summed.length) 4 ++ P2 := ⟨_, rfl⟩
  have hB : b.bytes ++ Z = wire.be b.base.toNat 8 ++ P1 := by
    rw [p1, p2, p3]
    unfold Bat.bytes Bat.front
    simp only [List.append_assoc]
  have hl2 : P2.length = 4 + (b.summed.length + Z.length) := by rw [p2, p3]; simp only [List.length_append, wire.be_len]
  have e1 : dec.g1 (b.bytes ++ Z) = (b.base, P1, 0) := by unfold dec.g1; rw [hB]; exact fixed_be m0 (by unfold wire.fit; simp; omega) (by omega)
  have e2 : dec.g2 (b.bytes ++ Z) = (((4 + b.summed.length : Nat) : Int), P2, 0) := by unfold dec.g2; rw [e1, p1]; exact rd.fixed_be _ 4 _ (by unfold wire.fit; simp; omega) (by omega)
  have hclt := crc.more_lt 0 b.summed
  have e3 : dec.g3 (b.bytes ++ Z) = (((crc.more 0 b.summed : Nat) : Int), P3, 0) := by unfold dec.g3; rw [e2, p2]; exact rd.fixed_be _ 4 _ (by unfold wire.fit; simp; omega) (by omega)
  have hs : dec.sum (b.bytes ++ Z) (4 + b.summed.length) = b.summed := by
    unfold dec.sum
    rw [show 12 + (4 + b.summed.length) = b.bytes.length by omega, List.take_left]
    unfold Bat.bytes
    rw [List.drop_append_of_le_length (by unfold Bat.front; simp only [List.length_append, wire.be_len]; omega), List.drop_eq_nil_of_le (by unfold Bat.front; simp only [List.length_append, wire.be_len]; omega), List.nil_append]
  unfold dec.first
  rw [e2, e1, e3]
  dsimp only
  rw [Int.toNat_natCast, hs, if_neg (by rw [hl2]; omega), if_neg (by simp; omega), dec.summed_put hc]
  dsimp only
  rw [if_neg (fun h => h hc), show 12 + (4 + b.summed.length) = b.bytes.length by omega]
theorem dec.decode_put {b : Bat} (hc : b.check = 0) : dec.decode b.bytes = some b := by
  have h := dec.first_put hc []
  rw [List.append_nil] at h
  unfold dec.decode
  rw [h]
  dsimp only
  rw [if_pos rfl]
end Go.Proofs.Ytahncanmfjmfnaa

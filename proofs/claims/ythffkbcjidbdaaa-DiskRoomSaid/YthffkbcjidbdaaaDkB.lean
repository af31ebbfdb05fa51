/- A disk's come: acts are counted, and come to, or not. -/
import Derived.Test.YthffkbcjidbdaaaDkA
namespace Go.Proofs.Ythffkbcjidbdaaa
open Go.RowKit Go.Maps
set_option maxRecDepth 100000

def dk.okName (s : ByteArray) : Bool := decide (1 ≤ s.size ∧ s.size ≤ 100)
/-- Is the power off, when the next act comes? -/
def Dsk.dies (D : Dsk) : Bool := D.off || (D.cut && decide (D.left = 0))
/-- What come answers. -/
def Dsk.comeE (D : Dsk) (L : List ByteArray) : Int := if D.dies = true then 7 else if L.all dk.okName = true then 0 else 1
/-- What come leaves. -/
def Dsk.come (D : Dsk) : Dsk := { D with ops := D.ops + 1, off := D.dies, left := if D.dies = true then D.left else if D.cut = true then D.left - 1 else D.left }
def dk.cells (D : Dsk) (mn ms sv : Value) : Array Value := #[.int .i64 D.room, .int .i64 D.used, .int .i64 D.ops, .bool D.off, .bool D.cut, .int .i64 D.left, mn, ms, sv]
theorem disk.come_nil (A : Option Addr) (n c : Nat) (w : World) : Calls Try.prog 54 #[.pointer none, .slice A n c] w fun e w' => e = .returned (.int .i64 7) ∧ w = w' := by
  go_enter Try.func54, Try.ntmps54
  go_wp2_with fail
  go_ret
  exact ⟨rfl, rfl⟩
set_option maxHeartbeats 4000000 in
theorem disk.come_any (p : Nat) (D : Dsk) (mn ms sv : Value) (A : Option Addr) (n c : Nat) (L : List ByteArray) (w : World) (hb : Blk w p 83 (dk.cells D mn ms sv)) (hat : At w A n (fun j => .string (L.getD j dk.no))) (hne : ∀ b off, A = some ⟨b, off, none⟩ → b ≠ p) (hl : L.length = n) (hn : n ≤ 1000)
    (hops : -4611686018427387904 ≤ D.ops ∧ D.ops ≤ 4611686018427387904) (hleft : D.cut = true → 0 ≤ D.left ∧ D.left ≤ 9223372036854775807) (hsz : ∀ s ∈ L, s.size ≤ maxLen) :
    Calls Try.prog 54 #[.pointer (some ⟨p, 0, none⟩), .slice A n c] w fun e w' => e = .returned (.int .i64 (D.comeE L)) ∧ Blk w' p 83 (dk.cells D.come mn ms sv) ∧ Chg w w' (fun k => k = p) ∧ w'.heap.size = w.heap.size := by
  obtain ⟨room, used, ops, off, cut, left, now, safe, since, file⟩ := D
  unfold dk.cells at hb ⊢
  unfold Dsk.comeE Dsk.come
  dsimp only at hops hleft hb ⊢
  have hdies : (⟨room, used, ops, off, cut, left, now, safe, since, file⟩ : Dsk).dies = (off || (cut && decide (left = 0))) := rfl
  rw [hdies]
  clear hdies
  obtain ⟨d, hd⟩ : ∃ d : Bool, d = (off || (cut && decide (left = 0))) := ⟨_, rfl⟩
  rw [← hd]
  obtain ⟨E, hE⟩ : ∃ E : Int, E = (if d = true then 7 else if L.all dk.okName = true then 0 else 1) := ⟨_, rfl⟩
  rw [← hE]
  obtain ⟨lf, hlf⟩ : ∃ lf : Int, lf = (if d = true then left else if cut = true then left - 1 else left) := ⟨_, rfl⟩
  rw [← hlf]
  have HE := Lib.hid (And.intro hd (And.intro hE hlf)); clear hd hE hlf
  have k2 := hb.cell 2 rfl
  have k3 := hb.cell 3 rfl
  have k4 := hb.cell 4 rfl
  have k5 := hb.cell 5 rfl
  have z2 := hb.frozen 2
  have hpl := hb.lt
  obtain ⟨w1, hw1⟩ : ∃ w1, w1 = w.setCell ⟨p, 2, none⟩ (.int .i64 (ops + 1)) := ⟨_, rfl⟩
  have hb1 : Blk w1 p 83 #[.int .i64 room, .int .i64 used, .int .i64 (ops + 1), .bool off, .bool cut, .int .i64 left, mn, ms, sv] := by rw [hw1]; exact hb.set 2 _
  have hc1 : Chg w w1 (fun k => k = p) := by rw [hw1]; exact Chg.setCell _ _ _ _
  have hs1 : w1.heap.size = w.heap.size := by rw [hw1]; simp
  have HB := Lib.hid (And.intro hb1 (And.intro hc1 hs1)); clear hb1 hc1 hs1 hb
  have HAT := Lib.hid (And.intro hat (And.intro hne (And.intro hl hsz))); clear hat hne hl hsz
  go_enter Try.func54, Try.ntmps54
  go_upto_region 4 with fail
  rw [← hw1]
  clear hw1 k2 k3 k4 k5 z2
  have k2 := HB.out.1.cell 2 (v := .int .i64 (ops + 1)) rfl
  have k3 := HB.out.1.cell 3 (v := .bool off) rfl
  have k4 := HB.out.1.cell 4 (v := .bool cut) rfl
  have k5 := HB.out.1.cell 5 (v := .int .i64 left) rfl
  have hpl1 := HB.out.1.lt
  have z3 := HB.out.1.frozen 3
  have z5 := HB.out.1.frozen 5
  have hcases : (cut = true ∧ left = 0) ∨ (¬ (cut = true ∧ left = 0) ∧ off = true) ∨ (cut = true ∧ ¬ left = 0 ∧ off = false) ∨ (cut = false ∧ off = false) := by
    cases off <;> cases cut <;> by_cases h : left = 0 <;> simp [h]
  rcases hcases with ⟨rfl, rfl⟩ | ⟨h1, rfl⟩ | ⟨rfl, h1, rfl⟩ | ⟨rfl, rfl⟩
  · have hd : d = true := by rw [HE.out.1]; simp
    have HF := Lib.hid (show d = true ∧ E = 7 ∧ lf = 0 from ⟨hd, by rw [HE.out.2.1, if_pos hd], by rw [HE.out.2.2, if_pos hd]⟩); clear hd HE
    obtain ⟨w2, hw2⟩ : ∃ w2, w2 = w1.setCell ⟨p, 3, none⟩ (.bool true) := ⟨_, rfl⟩
    have hb2 : Blk w2 p 83 #[.int .i64 room, .int .i64 used, .int .i64 (ops + 1), .bool true, .bool true, .int .i64 0, mn, ms, sv] := by rw [hw2]; exact HB.out.1.set 3 _
    have hc2 : Chg w1 w2 (fun k => k = p) := by rw [hw2]; exact Chg.setCell _ _ _ _
    have hs2 : w2.heap.size = w1.heap.size := by rw [hw2]; simp
    have HB2 := Lib.hid (And.intro hb2 (And.intro (HB.out.2.1.trans hc2 fun _ _ q => q) (hs2.trans HB.out.2.2))); clear hb2 hc2 hs2
    go_upto_region 6 with fail
    rw [← hw2]
    clear hw2 k2 k3 k4 k5 z3 z5
    have k3 := HB2.out.1.cell 3 (v := .bool true) rfl
    have hpl2 := HB2.out.1.lt
    go_wp2_with fail
    go_ret
    exact ⟨by rw [HF.out.2.1]; rfl, by rw [HF.out.1, HF.out.2.2]; exact HB2.out.1, HB2.out.2⟩
  · have hd : d = true := HE.out.1
    have HF := Lib.hid (show d = true ∧ E = 7 ∧ lf = left from ⟨hd, by rw [HE.out.2.1, if_pos hd], by rw [HE.out.2.2, if_pos hd]⟩); clear hd HE
    have hd : (cut = false) ∨ (cut = true ∧ ¬ left = 0) := by
      cases cut with
      | false => exact .inl rfl
      | true => exact .inr ⟨rfl, fun h => h1 ⟨rfl, h⟩⟩
    clear h1
    rcases hd with rfl | ⟨rfl, h1⟩
    · go_wp2_with fail
      go_ret
      exact ⟨by rw [HF.out.2.1]; rfl, by rw [HF.out.1, HF.out.2.2]; exact HB.out.1, HB.out.2⟩
    · have h2 : decide (left = 0) = false := decide_eq_false h1
      have h3 : (left == 0) = false := by simpa using h1
      clear h1
      go_wp2_with fail
      go_ret
      exact ⟨by rw [HF.out.2.1]; rfl, by rw [HF.out.1, HF.out.2.2]; exact HB.out.1, HB.out.2⟩
  · have hd : d = false := by rw [HE.out.1, decide_eq_false h1]; rfl
    have HF := Lib.hid (show d = false ∧ E = (if L.all dk.okName = true then 0 else 1) ∧ lf = left - 1 from ⟨hd, by rw [HE.out.2.1, if_neg (by rw [hd]; simp)], by rw [HE.out.2.2, if_neg (by rw [hd]; simp), if_pos rfl]⟩); clear hd HE
    have h2 : decide (left = 0) = false := decide_eq_false h1
    have h3 : (left == 0) = false := by simpa using h1
    have hl0 := hleft rfl
    clear h1
    obtain ⟨w2, hw2⟩ : ∃ w2, w2 = w1.setCell ⟨p, 5, none⟩ (.int .i64 (left - 1)) := ⟨_, rfl⟩
    have hb2 : Blk w2 p 83 #[.int .i64 room, .int .i64 used, .int .i64 (ops + 1), .bool false, .bool true, .int .i64 (left - 1), mn, ms, sv] := by rw [hw2]; exact HB.out.1.set 5 _
    have hc2 : Chg w1 w2 (fun k => k = p) := by rw [hw2]; exact Chg.setCell _ _ _ _
    have hs2 : w2.heap.size = w1.heap.size := by rw [hw2]; simp
    have HB2 := Lib.hid (And.intro hb2 (And.intro (HB.out.2.1.trans hc2 fun _ _ q => q) (hs2.trans HB.out.2.2))); clear hb2 hc2 hs2
    go_upto_region 10 with fail
    rw [← hw2]
    clear hw2 k2 k3 k4 k5 z3 z5
    have hbl : Blk w2 p 83 #[.int .i64 room, .int .i64 used, .int .i64 (ops + 1), .bool d, .bool true, .int .i64 lf, mn, ms, sv] := by rw [HF.out.1, HF.out.2.2]; exact HB2.out.1
    have HB3 := Lib.hid (And.intro HF.out.2.1 (And.intro hbl HB2.out.2)); clear hbl HB HB2 HF
    have hat2 : At w2 A n (fun j => .string (L.getD j dk.no)) := HB3.out.2.2.1.at' HAT.out.1 fun h0 b off e => HAT.out.2.1 b off e
    have HA2 := Lib.hid (And.intro hat2 (And.intro HAT.out.2.2.1 HAT.out.2.2.2)); clear hat2 HAT
    go_wp2_with fail
    go_loop [47] (fun i => ∃ k : Nat, k ≤ n ∧ i = .int .i64 (k : Int) ∧ ∀ s ∈ L.take k, dk.okName s = true) (fun i => n - (intOf i).toNat)
    case atStart => exact ⟨0, by omega, rfl, by simp⟩
    case round =>
      obtain ⟨k, hk, rfl, hok⟩ := hrel
      have HOK := Lib.hid hok; clear hok
      by_cases hlt : k < n
      · have hlt' : (k : Int) < (n : Int) := by omega
        obtain ⟨s, hs⟩ : ∃ s, L[k]? = some s := ⟨_, List.getElem?_eq_getElem (by rw [HA2.out.2.1]; exact hlt)⟩
        obtain ⟨b2, o2, rfl, hb2, hc⟩ := HA2.out.1 (by omega)
        have q0 : w2.cell? ⟨b2, o2 + k, none⟩ = some (.string s) := (hc k hlt).trans (by dsimp only; rw [List.getD_eq_getElem?_getD, hs]; rfl)
        have hss := HA2.out.2.2 s (List.mem_of_getElem? hs)
        unfold maxLen at hss
        obtain ⟨m, hm⟩ : ∃ m, m = s.size := ⟨_, rfl⟩
        have hmm : m ≤ 9223372036854775807 := by omega
        have hstep : 1 ≤ m → m ≤ 100 → ∀ t ∈ L.take (k + 1), dk.okName t = true := fun g1 g2 t ht => by
          obtain ⟨h1, h2⟩ := List.getElem?_eq_some_iff.1 hs
          rw [List.take_succ_eq_append_getElem h1, h2] at ht
          rcases List.mem_append.1 ht with ht | ht
          · exact HOK.out t ht
          · rw [List.mem_singleton.1 ht]
            unfold dk.okName
            rw [decide_eq_true_eq]
            omega
        have hbad : ¬ (1 ≤ m ∧ m ≤ 100) → E = 1 := fun g => by
          rw [HB3.out.1, if_neg]
          intro ha
          have h1 := List.all_eq_true.1 ha s (List.mem_of_getElem? hs)
          unfold dk.okName at h1
          rw [decide_eq_true_eq] at h1
          omega
        have HST := Lib.hid (And.intro hstep hbad); clear hstep hbad hs hc hss
        have HM := Lib.hid hm
        have hsz' : s.size = m := hm.symm
        clear hm
        by_cases h1 : (m : Int) < 1
        · have he := HST.out.2 (by omega)
          have HEE := Lib.hid he; clear he
          go_wp2_with fail
          (try rw [Exit.noGoto_ret])
          go_ret
          exact ⟨by rw [HEE.out]; rfl, HB3.out.2⟩
        by_cases h2 : (100 : Int) < (m : Int)
        · have he := HST.out.2 (by omega)
          have HEE := Lib.hid he; clear he
          go_wp2_with fail
          (try rw [Exit.noGoto_ret])
          go_ret
          exact ⟨by rw [HEE.out]; rfl, HB3.out.2⟩
        have HSN := Lib.hid (HST.out.1 (by omega) (by omega)); clear HST
        go_wp2_with fail
        go_round
        case rel => exact ⟨k + 1, by omega, by go_num, HSN.out⟩
        case measure => simp [intOf]; omega
      · obtain rfl : k = n := by omega
        have he : E = 0 := by
          rw [HB3.out.1, if_pos]
          refine List.all_eq_true.2 fun t ht => HOK.out t ?_
          rw [List.take_of_length_le (by rw [HA2.out.2.1]; exact Nat.le_refl _)]
          exact ht
        have HEE := Lib.hid he; clear he
        go_wp2_with fail
        go_ret
        exact ⟨by rw [HEE.out]; rfl, HB3.out.2⟩
  · have hd : d = false := HE.out.1
    have HF := Lib.hid (show d = false ∧ E = (if L.all dk.okName = true then 0 else 1) ∧ lf = left from ⟨hd, by rw [HE.out.2.1, if_neg (by rw [hd]; simp)], by rw [HE.out.2.2, if_neg (by rw [hd]; simp), if_neg (by simp)]⟩); clear hd HE
    go_upto_region 10 with fail
    clear k2 k3 k4 k5 z3 z5
    obtain ⟨w2, hw2⟩ : ∃ w2, w2 = w1 := ⟨_, rfl⟩
    rw [← hw2] at HB ⊢
    clear hw2
    have hbl : Blk w2 p 83 #[.int .i64 room, .int .i64 used, .int .i64 (ops + 1), .bool d, .bool false, .int .i64 lf, mn, ms, sv] := by rw [HF.out.1, HF.out.2.2]; exact HB.out.1
    have HB3 := Lib.hid (And.intro HF.out.2.1 (And.intro hbl HB.out.2)); clear hbl HB HF
    have hat2 : At w2 A n (fun j => .string (L.getD j dk.no)) := HB3.out.2.2.1.at' HAT.out.1 fun h0 b off e => HAT.out.2.1 b off e
    have HA2 := Lib.hid (And.intro hat2 (And.intro HAT.out.2.2.1 HAT.out.2.2.2)); clear hat2 HAT
    go_wp2_with fail
    go_loop [47] (fun i => ∃ k : Nat, k ≤ n ∧ i = .int .i64 (k : Int) ∧ ∀ s ∈ L.take k, dk.okName s = true) (fun i => n - (intOf i).toNat)
    case atStart => exact ⟨0, by omega, rfl, by simp⟩
    case round =>
      obtain ⟨k, hk, rfl, hok⟩ := hrel
      have HOK := Lib.hid hok; clear hok
      by_cases hlt : k < n
      · have hlt' : (k : Int) < (n : Int) := by omega
        obtain ⟨s, hs⟩ : ∃ s, L[k]? = some s := ⟨_, List.getElem?_eq_getElem (by rw [HA2.out.2.1]; exact hlt)⟩
        obtain ⟨b2, o2, rfl, hb2, hc⟩ := HA2.out.1 (by omega)
        have q0 : w2.cell? ⟨b2, o2 + k, none⟩ = some (.string s) := (hc k hlt).trans (by dsimp only; rw [List.getD_eq_getElem?_getD, hs]; rfl)
        have hss := HA2.out.2.2 s (List.mem_of_getElem? hs)
        unfold maxLen at hss
        obtain ⟨m, hm⟩ : ∃ m, m = s.size := ⟨_, rfl⟩
        have hmm : m ≤ 9223372036854775807 := by omega
        have hstep : 1 ≤ m → m ≤ 100 → ∀ t ∈ L.take (k + 1), dk.okName t = true := fun g1 g2 t ht => by
          obtain ⟨h1, h2⟩ := List.getElem?_eq_some_iff.1 hs
          rw [List.take_succ_eq_append_getElem h1, h2] at ht
          rcases List.mem_append.1 ht with ht | ht
          · exact HOK.out t ht
          · rw [List.mem_singleton.1 ht]
            unfold dk.okName
            rw [decide_eq_true_eq]
            omega
        have hbad : ¬ (1 ≤ m ∧ m ≤ 100) → E = 1 := fun g => by
          rw [HB3.out.1, if_neg]
          intro ha
          have h1 := List.all_eq_true.1 ha s (List.mem_of_getElem? hs)
          unfold dk.okName at h1
          rw [decide_eq_true_eq] at h1
          omega
        have HST := Lib.hid (And.intro hstep hbad); clear hstep hbad hs hc hss
        have HM := Lib.hid hm
        have hsz' : s.size = m := hm.symm
        clear hm
        by_cases h1 : (m : Int) < 1
        · have he := HST.out.2 (by omega)
          have HEE := Lib.hid he; clear he
          go_wp2_with fail
          (try rw [Exit.noGoto_ret])
          go_ret
          exact ⟨by rw [HEE.out]; rfl, HB3.out.2⟩
        by_cases h2 : (100 : Int) < (m : Int)
        · have he := HST.out.2 (by omega)
          have HEE := Lib.hid he; clear he
          go_wp2_with fail
          (try rw [Exit.noGoto_ret])
          go_ret
          exact ⟨by rw [HEE.out]; rfl, HB3.out.2⟩
        have HSN := Lib.hid (HST.out.1 (by omega) (by omega)); clear HST
        go_wp2_with fail
        go_round
        case rel => exact ⟨k + 1, by omega, by go_num, HSN.out⟩
        case measure => simp [intOf]; omega
      · obtain rfl : k = n := by omega
        have he : E = 0 := by
          rw [HB3.out.1, if_pos]
          refine List.all_eq_true.2 fun t ht => HOK.out t ?_
          rw [List.take_of_length_le (by rw [HA2.out.2.1]; exact Nat.le_refl _)]
          exact ht
        have HEE := Lib.hid he; clear he
        go_wp2_with fail
        go_ret
        exact ⟨by rw [HEE.out]; rfl, HB3.out.2⟩
end Go.Proofs.Ythffkbcjidbdaaa

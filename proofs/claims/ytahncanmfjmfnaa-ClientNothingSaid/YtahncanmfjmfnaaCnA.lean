/- What the laws draw for chapter 24: records of cordwainalike. -/
import Derived.Test.YtahncanmfjmfnaaBtF
import Derived.Deep.QuietTactic
import Derived.Deep.Cut
import Derived.BigQuiet
import Derived.Test.YtahncanmfjmfnaaPlanC
namespace Go.Proofs.Ytahncanmfjmfnaa
open Go.RowKit
set_option maxRecDepth 100000

/-- The rest of a division, never below 0. -/
def cn.round (k n : Int) : Int := if k.tmod n < 0 then k.tmod n + n else k.tmod n
theorem cn.round_bd (k : Int) {n : Int} (hn : 0 < n) : 0 ≤ cn.round k n ∧ cn.round k n < n := by
  have h1 := Int.tmod_lt_of_pos k hn
  have h2 : -n < k.tmod n := by
    have := Int.tmod_lt_of_pos (-k) hn
    rw [Int.neg_tmod] at this; omega
  unfold cn.round
  split <;> omega
theorem cn.round_any (k n : Int) (hk : -9223372036854775808 ≤ k ∧ k ≤ 9223372036854775807) (hn : 0 < n) (hn2 : n ≤ 1099511627776) (w : World) :
    Calls Try.prog 11 #[.int .i64 k, .int .i64 n] w fun e w' => e = .returned (.int .i64 (cn.round k n)) ∧ w = w' := by
  obtain ⟨k1, k2⟩ := hk
  have h1 := Int.tmod_lt_of_pos k hn
  have h2 : -n < k.tmod n := by
    have := Int.tmod_lt_of_pos (-k) hn
    rw [Int.neg_tmod] at this; omega
  have hne : n ≠ 0 := by omega
  by_cases hneg : k.tmod n < 0
  · have e : cn.round k n = k.tmod n + n := if_pos hneg
    rw [e]
    go_enter Try.func11, Try.ntmps11
    go_wp2
    go_ret
    exact ⟨rfl, rfl⟩
  · have e : cn.round k n = k.tmod n := if_neg hneg
    rw [e]
    go_enter Try.func11, Try.ntmps11
    go_wp2
    go_ret
    exact ⟨rfl, rfl⟩

/-- Bytes that differ. -/
def cn.block (n : Nat) (seed : Int) : List Nat := (List.range n).map fun (i : Nat) => ((seed + (i : Int) * 7) % 256).toNat
theorem cn.make (n : Nat) (hn : n ≤ 3000) : ∀ wx : World, (Instr.makeSlice 33 (.int .i64 (n : Int)) (.int .i64 (n : Int))).run Try.prog wx = .ok (.slice (some ⟨wx.heap.size, 0, none⟩) n n) (wx.alloc (.cells (madeCells #[Value.int .u8 0] n) 5)) := fun wx => by
  obtain ⟨iu, hu, hu0, hu1, hu2⟩ := info_parts infoByte
  have hr := run_make (P := Try.prog) wx 33 5 iu (.int .u8 0) Try.underlying33 hu hu0 .i64 .i64 (n : Int) (n : Int) (by omega) (Int.le_refl _) (by rw [hu2]; omega) (by omega)
  rw [hu1, Int.toNat_natCast, Nat.mul_one] at hr
  exact hr
set_option maxHeartbeats 2000000 in
theorem cn.block_any (n : Nat) (seed : Int) (w : World) (hn : n ≤ 3000) :
    Calls Try.prog 38 #[.int .i64 (n : Int), .int .i64 seed] w fun e w' => e = .returned (.slice (some ⟨w.heap.size, 0, none⟩) n n) ∧ BytesV w' (.slice (some ⟨w.heap.size, 0, none⟩) n n) (cn.block n seed) ∧ Below w.heap.size w w' ∧ w.heap.size < w'.heap.size := by
  have hmk := cn.make n hn
  go_enter Try.func38, Try.ntmps38
  go_upto_region 3 with fail
  obtain ⟨w1, hw1⟩ : ∃ w1, w1 = w.alloc (.cells (madeCells #[Value.int .u8 0] n) 5) := ⟨_, rfl⟩
  obtain ⟨b, hb⟩ : ∃ b, b = w.heap.size := ⟨_, rfl⟩
  have hbk : Blk w1 b 5 (madeCells #[Value.int .u8 0] n) := by rw [hw1, hb]; exact Blk.new _ _ _
  have hb1 : Below b w w1 := by rw [hw1, hb]; exact (Below.refl _ _).alloc (Nat.le_refl _) _
  rw [← hw1, ← hb]
  have H1 := Lib.hid (And.intro hbk (And.intro hb1 hb)); clear hbk hb1 hb hw1 hmk
  go_loopw [6] (fun i wr => ∃ (j : Nat) (cs : Array Value), j ≤ n ∧ i = .int .i64 (j : Int) ∧ Blk wr b 5 cs ∧ cs.size = n ∧ (∀ i, i < j → cs[i]? = some (.int .u8 ((seed + (i : Int) * 7) % 256))) ∧ Below b w wr) (fun i _ => n - (intOf i).toNat)
  case atStart => exact ⟨0, _, by omega, rfl, H1.out.1, by simp [madeCells], fun i hi => absurd hi (by omega), H1.out.2.1⟩
  case round =>
    obtain ⟨j, cs, hj, rfl, hbk, hcs, hpre, hbw⟩ := hrel
    by_cases hlt : j < n
    · have hlt' : (j : Int) < (n : Int) := by omega
      have hfr := hbk.frozen j
      obtain ⟨u, hu⟩ : ∃ u, cs[j]? = some u := ⟨_, Array.getElem?_eq_getElem (by omega)⟩
      have hcell := hbk.cell j hu
      have hbl := hbk.lt
      have HB := Lib.hid (And.intro hbk (And.intro hpre hbw)); clear hbk hpre hbw
      go_wp2_with fail
      clear hcell hfr
      refine ⟨⟨j + 1, cs.setIfInBounds j (.int .u8 ((seed + (j : Int) % 256 * 7) % 256)), by omega, by go_num, HB.out.1.set j _, by simp [hcs], fun i hi => ?_, HB.out.2.2.trans ((Chg.setCell wr b j _).below (by rw [H1.out.2.2]; exact HB.out.2.2.size) fun k hk => by rw [hk]; exact Nat.le_refl _)⟩, by simp [intOf]; omega⟩
      by_cases e : i = j
      · subst e
        rw [Array.getElem?_setIfInBounds_self_of_lt (by omega)]
        have : (seed + (i : Int) % 256 * 7) % 256 = (seed + (i : Int) * 7) % 256 := by omega
        rw [this]
      · rw [Array.getElem?_setIfInBounds_ne (by omega)]
        exact HB.out.2.1 i (by omega)
    · obtain rfl : j = n := by omega
      have HB := Lib.hid (And.intro hbk (And.intro hpre hbw)); clear hbk hpre hbw
      go_wp2_with fail
      go_ret
      have hlen : (cn.block j seed).length = j := by unfold cn.block; simp
      refine ⟨by rw [H1.out.2.2]; rfl, ⟨some ⟨w.heap.size, 0, none⟩, j, by rw [hlen], ?_, by rw [hlen]; exact Nat.le_refl _, by unfold maxLen; omega, fun x hx => ?_⟩, by rw [← H1.out.2.2]; exact HB.out.2.2, by rw [← H1.out.2.2]; exact HB.out.1.lt⟩
      · rw [hlen, ← H1.out.2.2]
        refine fun h0 => ⟨b, 0, rfl, HB.out.1.lt, fun i hi => ?_⟩
        rw [Nat.zero_add]
        refine HB.out.1.cell i ?_
        rw [HB.out.2.1 i hi]
        unfold byteAt cn.block
        simp only [List.getD, List.getElem?_map, List.getElem?_range hi, Option.map_some, Option.getD_some]
        congr 2
        omega
      · obtain ⟨i, -, rfl⟩ := List.mem_map.1 hx
        omega

/-- A record that a key, a value and a time make. -/
def cn.rec (key value time : Int) : Rec := ⟨0, time, decide (0 ≤ key), if 0 ≤ key then [(97 + cn.round key 26).toNat] else [], decide (0 ≤ value), if 0 ≤ value then cn.block (cn.round value 40).toNat value else []⟩
theorem cn.res_cell1 {P : Program} {fn : Func} {p : Tmp} {ty T : TypeId} (h : fn.results = #[.cell p ty]) (tmps : Array Value) (w : World) (g : Nat) (cs : Array Value) (d : TypeDesc) (hp : tmps.getD p undef = .pointer (some ⟨g, 0, none⟩)) (hg : Blk w g T cs)
    (hu : P.underlying ty = some d) (hd : (match d with | .struct _ | .array _ _ => true | _ => false) = true) (hi : (P.info? ty).map (·.size) = some cs.size) :
    (results fn tmps).run P w = .ok (.agg cs) w := by
  have hp' : tmps[p]?.getD undef = .pointer (some ⟨g, 0, none⟩) := by simpa using hp
  simp [results, h, hp', asAddr, run_loadVar_row w g T ty cs (0, 0) d hg hu hd hi]
theorem cn.blk_row {w : World} {p : Nat} {T : TypeId} {cs : Array Value} (h : Blk w p T cs) (c2 : Array Value) : Blk (w.setRow p c2) p T c2 := setRow_heap w p cs c2 T _ h
theorem cn.chg_row (w : World) (g : Nat) (cs : Array Value) : Chg w (w.setRow g cs) (fun k => k = g) := ⟨rfl, rfl, rfl, by simp, fun k _ hk => setRow_other w g k cs hk⟩
theorem cn.info6 : (Try.prog.info? 44).map (·.size) = some 6 := by kernel_rfl
/-- Bytes of one's own, laid since B. -/
def cn.Own (B : Nat) (w : World) (v : Value) (L : List Nat) : Prop := BytesV w v L ∧ ∀ g, v.ownBlock = some g → B ≤ g ∧ g < w.heap.size
theorem cn.Own.chg {B : Nat} {w w' : World} {v : Value} {L : List Nat} {P : Nat → Prop} (h : cn.Own B w v L) (hc : Chg w w' P) (hp : ∀ k, P k → k < B ∨ w.heap.size ≤ k) : cn.Own B w' v L := by
  obtain ⟨⟨A, c, rfl, h1, h2⟩, h3⟩ := h
  refine ⟨⟨A, c, rfl, hc.at' h1 fun h0 b off hb hh => ?_, h2⟩, fun g hg => ⟨(h3 g hg).1, Nat.lt_of_lt_of_le (h3 g hg).2 hc.size⟩⟩
  have h4 := h3 b (by rw [hb]; rfl)
  rcases hp b hh with h5 | h5 <;> omega
theorem cn.Own.nil (B : Nat) (w : World) : cn.Own B w (.slice none 0 0) [] := ⟨⟨none, 0, rfl, fun h => absurd h (by decide), Nat.le_refl _, Nat.zero_le _, fun x hx => by cases hx⟩, fun g hg => by cases hg⟩
theorem cn.Own.up {B B' : Nat} {w : World} {v : Value} {L : List Nat} (h : cn.Own B w v L) (hb : B' ≤ B) : cn.Own B' w v L := ⟨h.1, fun g hg => ⟨Nat.le_trans hb (h.2 g hg).1, (h.2 g hg).2⟩⟩

set_option maxHeartbeats 4000000 in
theorem cn.record_any (key value time : Int) (w : World) (hk : i64ok key) (hv : i64ok value) :
    Calls Try.prog 25 #[.int .i64 key, .int .i64 value, .int .i64 time] w fun e w' => ∃ kv vv, e = .returned (.agg #[.int .i64 0, .int .i64 time, .bool (decide (0 ≤ key)), kv, .bool (decide (0 ≤ value)), vv]) ∧
      cn.Own w.heap.size w' kv (cn.rec key value time).key ∧ cn.Own w.heap.size w' vv (cn.rec key value time).val ∧ Below w.heap.size w w' := by
  have hrk : ∀ wx, Calls Try.prog 11 #[.int .i64 key, .int .i64 26] wx fun e w' => e = .returned (.int .i64 (cn.round key 26)) ∧ wx = w' := fun wx => cn.round_any key 26 hk (by omega) (by omega) wx
  have hrv : ∀ wx, Calls Try.prog 11 #[.int .i64 value, .int .i64 40] wx fun e w' => e = .returned (.int .i64 (cn.round value 40)) ∧ wx = w' := fun wx => cn.round_any value 40 hv (by omega) (by omega) wx
  obtain ⟨x, hx⟩ : ∃ x : Nat, (x : Int) = cn.round key 26 := ⟨(cn.round key 26).toNat, by have := (cn.round_bd key (n := 26) (by omega)).1; omega⟩
  obtain ⟨y, hy⟩ : ∃ y : Nat, (y : Int) = cn.round value 40 := ⟨(cn.round value 40).toNat, by have := (cn.round_bd value (n := 40) (by omega)).1; omega⟩
  have hx1 : x < 26 := by have := (cn.round_bd key (n := 26) (by omega)).2; omega
  have hy1 : y < 40 := by have := (cn.round_bd value (n := 40) (by omega)).2; omega
  rw [← hx] at hrk
  rw [← hy] at hrv
  have hbl : ∀ wx, Calls Try.prog 38 #[.int .i64 (y : Int), .int .i64 value] wx fun e w' => e = .returned (.slice (some ⟨wx.heap.size, 0, none⟩) y y) ∧ BytesV w' (.slice (some ⟨wx.heap.size, 0, none⟩) y y) (cn.block y value) ∧ Below wx.heap.size wx w' ∧ wx.heap.size < w'.heap.size := fun wx => cn.block_any y value wx (by omega)
  have hbyte : ∀ (wx : World) (b : Nat), Blk wx b 5 #[.int .u8 (97 + (x : Int))] → BytesV wx (.slice (some ⟨b, 0, none⟩) 1 1) [97 + x] := fun wx b hb => ⟨some ⟨b, 0, none⟩, 1, rfl, fun _ => ⟨b, 0, rfl, hb.lt, fun j hj => by
    obtain rfl : j = 0 := by simpa using hj
    rw [hb.cell 0 rfl]
    unfold byteAt
    have : (97 + (x : Int)) = ((97 + x : Nat) : Int) := by omega
    rw [this]
    rfl⟩, by simp, by unfold maxLen; decide, fun z hz => by
    obtain rfl : z = 97 + x := by simpa using hz
    omega⟩
  have hkk : 0 ≤ key → (cn.rec key value time).key = [97 + x] := fun h => by unfold cn.rec; dsimp only; rw [if_pos h, ← hx]; congr 1
  have hkn : ¬ 0 ≤ key → (cn.rec key value time).key = [] := fun h => if_neg h
  have hvv : 0 ≤ value → (cn.rec key value time).val = cn.block y value := fun h => by unfold cn.rec; dsimp only; rw [if_pos h, ← hy, Int.toNat_natCast]
  have hvn : ¬ 0 ≤ value → (cn.rec key value time).val = [] := fun h => if_neg h
  have HX := Lib.hid (And.intro hrk (And.intro hrv (And.intro hbl (And.intro hbyte (And.intro hkk (And.intro hkn (And.intro hvv hvn))))))); clear hrk hrv hbl hbyte hkk hkn hvv hvn hx hy hk hv
  obtain ⟨g, hg⟩ : ∃ g, g = w.heap.size := ⟨_, rfl⟩
  obtain ⟨w2, hw2⟩ : ∃ w2, w2 = (w.alloc (.cells #[.int .i64 0, .int .i64 0, .bool false, .slice none 0 0, .bool false, .slice none 0 0] 44)).alloc (.cells #[.int .i64 0, .int .i64 time, .bool false, .slice none 0 0, .bool false, .slice none 0 0] 44) := ⟨_, rfl⟩
  have hs2 : w2.heap.size = g + 2 := by rw [hw2, hg]; simp
  have hb2 : Below w.heap.size w w2 := by rw [hw2]; exact ((Below.refl _ _).alloc (Nat.le_refl _) _).alloc (by simp) _
  have hz2 : Blk w2 g 44 #[.int .i64 0, .int .i64 0, .bool false, .slice none 0 0, .bool false, .slice none 0 0] := by rw [hw2, hg]; exact (Below.heap_alloc _ _ _ (by simp)).trans (Blk.new w _ _)
  have hk2 : Blk w2 (g + 1) 44 #[.int .i64 0, .int .i64 time, .bool false, .slice none 0 0, .bool false, .slice none 0 0] := by
    have h := Blk.new (w.alloc (.cells #[.int .i64 0, .int .i64 0, .bool false, .slice none 0 0, .bool false, .slice none 0 0] 44)) 44 #[.int .i64 0, .int .i64 time, .bool false, .slice none 0 0, .bool false, .slice none 0 0]
    rw [World.size_alloc, ← hg, ← hw2] at h
    exact h
  have H2 := Lib.hid (And.intro hs2 (And.intro hb2 (And.intro hz2 (And.intro hk2 (And.intro hw2 hg))))); clear hs2 hb2 hz2 hk2 hw2 hg
  go_enter Try.func25, Try.ntmps25
  go_upto_region 2 with fail
  rw [← H2.out.2.2.2.2.2, ← H2.out.2.2.2.2.1]
  by_cases hkey : 0 ≤ key
  · have g1 : decide (0 ≤ key) = true := decide_eq_true hkey
    have c2 := H2.out.2.2.2.1.cell 2 rfl
    have f2 := H2.out.2.2.2.1.frozen 2
    have l2 := H2.out.2.2.2.1.lt
    go_upto_region 4 with fail
    obtain ⟨w3, hw3⟩ : ∃ w3, w3 = w2.setCell ⟨g + 1, 2, none⟩ (.bool true) := ⟨_, rfl⟩
    rw [← hw3]
    have hk3 : Blk w3 (g + 1) 44 #[.int .i64 0, .int .i64 time, .bool true, .slice none 0 0, .bool false, .slice none 0 0] := by rw [hw3]; exact H2.out.2.2.2.1.set 2 _
    have hc3 : Chg w2 w3 (fun k => k = g + 1) := by rw [hw3]; exact Chg.setCell _ _ _ _
    obtain ⟨w4, hw4⟩ : ∃ w4, w4 = w3.alloc (.cells #[.int .u8 (97 + (x : Int))] 5) := ⟨_, rfl⟩
    have hk4 : Blk w4 (g + 1) 44 #[.int .i64 0, .int .i64 time, .bool true, .slice none 0 0, .bool false, .slice none 0 0] := by rw [hw4]; exact (Chg.alloc _ _ (fun _ => False)).blk hk3 id
    have hn4 : Blk w4 w3.heap.size 5 #[.int .u8 (97 + (x : Int))] := by rw [hw4]; exact Blk.new _ _ _
    have hc4 : Chg w2 w4 (fun k => k = g + 1) := by rw [hw4]; exact hc3.trans (Chg.alloc _ _ (fun _ => False)) fun _ _ q => q.elim
    have c3 := hk4.cell 3 rfl
    have f3 := hk4.frozen 3
    have l3 := hk4.lt
    have hs3 := hc3.size
    rw [hw4] at c3 f3 l3
    have H4 := Lib.hid (And.intro hk4 (And.intro hn4 (And.intro hc4 (And.intro hw4 hs3)))); clear hk4 hn4 hc4 hw4 hs3 hk3 hc3 hw3 c2 f2 l2
    go_upto_region 5 with (go_at_call 11; refine (HX.out.1 _).mono ?_; rintro e wx ⟨rfl, h3⟩; subst h3)
    rw [← H4.out.2.2.2.1]
    clear c3 f3 l3
    obtain ⟨w5, hw5⟩ : ∃ w5, w5 = w4.setCell ⟨g + 1, 3, none⟩ (.slice (some ⟨w3.heap.size, 0, none⟩) 1 1) := ⟨_, rfl⟩
    rw [← hw5]
    have hk5 : Blk w5 (g + 1) 44 #[.int .i64 0, .int .i64 time, .bool true, .slice (some ⟨w3.heap.size, 0, none⟩) 1 1, .bool false, .slice none 0 0] := by rw [hw5]; exact H4.out.1.set 3 _
    have hc5 : Chg w2 w5 (fun k => k = g + 1) := by rw [hw5]; exact H4.out.2.2.1.trans (Chg.setCell _ _ _ _) fun _ _ q => q
    have hn5 : Blk w5 w3.heap.size 5 #[.int .u8 (97 + (x : Int))] := by rw [hw5]; exact (Chg.setCell _ _ _ _).blk H4.out.2.1 (fun e => by have h1 := H4.out.2.2.2.2; have h2 := H2.out.1; have e : w3.heap.size = g + 1 := e; omega)
    have hown : cn.Own (g + 2) w5 (.slice (some ⟨w3.heap.size, 0, none⟩) 1 1) (cn.rec key value time).key := by
      rw [HX.out.2.2.2.2.1 (by omega)]
      exact ⟨HX.out.2.2.2.1 w5 _ hn5, fun q hq => by
        obtain rfl : w3.heap.size = q := by cases hq; rfl
        exact ⟨by have h1 := H4.out.2.2.2.2; have h2 := H2.out.1; omega, hn5.lt⟩⟩
    have hdk : decide (0 ≤ key) = true := g1
    have H5 := Lib.hid (And.intro hk5 (And.intro hc5 (And.intro hown hdk))); clear hk5 hc5 hown hn5 hw5 H4 g1 hdk
    by_cases hval : 0 ≤ value
    · have g2 : decide (0 ≤ value) = true := decide_eq_true hval
      have c4 := H5.out.1.cell 4 rfl
      have f4 := H5.out.1.frozen 4
      have l4 := H5.out.1.lt
      go_upto_region 7 with fail
      obtain ⟨w6, hw6⟩ : ∃ w6, w6 = w5.setCell ⟨g + 1, 4, none⟩ (.bool true) := ⟨_, rfl⟩
      rw [← hw6]
      have hk6 : Blk w6 (g + 1) 44 #[.int .i64 0, .int .i64 time, .bool true, .slice (some ⟨w3.heap.size, 0, none⟩) 1 1, .bool true, .slice none 0 0] := by rw [hw6]; exact H5.out.1.set 4 _
      have hc6 : Chg w2 w6 (fun k => k = g + 1) := by rw [hw6]; exact H5.out.2.1.trans (Chg.setCell _ _ _ _) fun _ _ q => q
      have hown6 : cn.Own (g + 2) w6 (.slice (some ⟨w3.heap.size, 0, none⟩) 1 1) (cn.rec key value time).key := by rw [hw6]; exact H5.out.2.2.1.chg (Chg.setCell _ _ _ _) fun k hk => by have hk : k = g + 1 := hk; omega
      have H6 := Lib.hid (And.intro hk6 (And.intro hc6 hown6)); clear hk6 hc6 hown6 hw6 c4 f4 l4
      go_upto_region 8 with (first
        | (go_at_call 38; refine (HX.out.2.2.1 w6).mono ?_; rintro e w7 ⟨rfl, h1, h2, h7⟩; have hk7 := (chg_of (P := fun _ => False) h2).blk H6.out.1 id; have H7 := Lib.hid (And.intro h1 (And.intro h2 (And.intro hk7 h7))); clear h1 h2 h7; have c5 := hk7.cell 5 rfl; have f5 := hk7.frozen 5; have l5 := hk7.lt; clear hk7)
        | (go_at_call 11; refine (HX.out.2.1 _).mono ?_; rintro e wx ⟨rfl, h3⟩; subst h3))
      clear c5 f5 l5
      obtain ⟨w8, hw8⟩ : ∃ w8, w8 = w7.setCell ⟨g + 1, 5, none⟩ (.slice (some ⟨w6.heap.size, 0, none⟩) y y) := ⟨_, rfl⟩
      rw [← hw8]
      have hk8 : Blk w8 (g + 1) 44 #[.int .i64 0, .int .i64 time, .bool true, .slice (some ⟨w3.heap.size, 0, none⟩) 1 1, .bool true, .slice (some ⟨w6.heap.size, 0, none⟩) y y] := by rw [hw8]; exact H7.out.2.2.1.set 5 _
      have hc78 : Chg w7 w8 (fun k => k = g + 1) := by rw [hw8]; exact Chg.setCell _ _ _ _
      have hc8 : Chg w2 w8 (fun k => k = g + 1) := (H6.out.2.1.trans (chg_of (P := fun _ => False) H7.out.2.1) fun _ _ q => q.elim).trans hc78 fun _ _ q => q
      have hs6 : g + 2 ≤ w6.heap.size := by have h1 := H6.out.2.1.size; have h2 := H2.out.1; omega
      have hown8 : cn.Own (g + 2) w8 (.slice (some ⟨w3.heap.size, 0, none⟩) 1 1) (cn.rec key value time).key := (H6.out.2.2.chg (chg_of (P := fun _ => False) H7.out.2.1) fun _ q => q.elim).chg hc78 fun k hk => by have hk : k = g + 1 := hk; omega
      have hval7 : cn.Own (g + 2) w7 (.slice (some ⟨w6.heap.size, 0, none⟩) y y) (cn.rec key value time).val := by
        rw [HX.out.2.2.2.2.2.2.1 (by omega)]
        refine ⟨H7.out.1, fun q hq => ?_⟩
        obtain rfl : w6.heap.size = q := by cases hq; rfl
        exact ⟨hs6, H7.out.2.2.2⟩
      have hval8 : cn.Own (g + 2) w8 (.slice (some ⟨w6.heap.size, 0, none⟩) y y) (cn.rec key value time).val := hval7.chg hc78 fun k hk => by have hk : k = g + 1 := hk; omega
      have hdv : decide (0 ≤ value) = true := g2
      have k0 := hk8.cell 0 rfl
      have k1 := hk8.cell 1 rfl
      have k2 := hk8.cell 2 rfl
      have k3 := hk8.cell 3 rfl
      have k4 := hk8.cell 4 rfl
      have k5 := hk8.cell 5 rfl
      have hz8 := hc8.blk H2.out.2.2.1 (fun e => by have e : g = g + 1 := e; omega)
      have H8 := Lib.hid (And.intro hz8 (And.intro hc8 (And.intro hown8 (And.intro hval8 hdv)))); clear hz8 hc8 hown8 hval8 hdv hk8 H6 H7 hval7 hs6 hc78 hw8 g2
      go_wp2_with (refine wpList_store_row rfl 44 (.tmp 6) (.tmp 27) rfl g #[.int .i64 0, .int .i64 time, .bool true, .slice (some ⟨w3.heap.size, 0, none⟩) 1 1, .bool true, .slice (some ⟨w6.heap.size, 0, none⟩) y y] rfl rfl 44 _ H8.out.1 cn.info6 rfl (by simp [Value.oneCell']) ?_)
      have hc9 := cn.chg_row w8 g #[.int .i64 0, .int .i64 time, .bool true, .slice (some ⟨w3.heap.size, 0, none⟩) 1 1, .bool true, .slice (some ⟨w6.heap.size, 0, none⟩) y y]
      have hz9 := cn.blk_row H8.out.1 #[.int .i64 0, .int .i64 time, .bool true, .slice (some ⟨w3.heap.size, 0, none⟩) 1 1, .bool true, .slice (some ⟨w6.heap.size, 0, none⟩) y y]
      generalize w8.setRow g #[.int .i64 0, .int .i64 time, .bool true, .slice (some ⟨w3.heap.size, 0, none⟩) 1 1, .bool true, .slice (some ⟨w6.heap.size, 0, none⟩) y y] = w9 at *
      refine bodyPost_ret (cn.res_cell1 rfl _ _ _ _ _ rfl hz9 Try.underlying44 rfl cn.info6) rfl ?_
      have hgw := H2.out.2.2.2.2.2
      have hc29 : Chg w2 w9 (fun k => k = g + 1 ∨ k = g) := (H8.out.2.1.mono fun _ _ q => .inl q).trans hc9 fun _ _ q => .inr q
      refine ⟨_, _, ?_, (H8.out.2.2.1.chg hc9 fun k hk => by have hk : k = g := hk; omega).up (by omega), (H8.out.2.2.2.1.chg hc9 fun k hk => by have hk : k = g := hk; omega).up (by omega), H2.out.2.1.trans (hc29.below H2.out.2.1.size fun k hk => by omega)⟩
      first | rw [H5.out.2.2.2, H8.out.2.2.2.2] | rw [H8.out.2.2.2.2] | rw [H5.out.2.2.2] | rfl
    · have g2 : decide (0 ≤ value) = false := decide_eq_false hval
      go_upto_region 8 with fail
      obtain ⟨w8, hw8⟩ : ∃ w8 : World, w8 = w5 := ⟨_, rfl⟩
      rw [← hw8]
      have hk8 : Blk w8 (g + 1) 44 #[.int .i64 0, .int .i64 time, .bool true, .slice (some ⟨w3.heap.size, 0, none⟩) 1 1, .bool false, .slice none 0 0] := by rw [hw8]; exact H5.out.1
      have hc8 : Chg w2 w8 (fun k => k = g + 1) := by rw [hw8]; exact H5.out.2.1
      have hown8 : cn.Own (g + 2) w8 (.slice (some ⟨w3.heap.size, 0, none⟩) 1 1) (cn.rec key value time).key := by rw [hw8]; exact H5.out.2.2.1
      have hval8 : cn.Own (g + 2) w8 (.slice none 0 0) (cn.rec key value time).val := by
        rw [HX.out.2.2.2.2.2.2.2 (by omega)]
        exact cn.Own.nil _ _
      have hdv : decide (0 ≤ value) = false := g2
      have k0 := hk8.cell 0 rfl
      have k1 := hk8.cell 1 rfl
      have k2 := hk8.cell 2 rfl
      have k3 := hk8.cell 3 rfl
      have k4 := hk8.cell 4 rfl
      have k5 := hk8.cell 5 rfl
      have hz8 := hc8.blk H2.out.2.2.1 (fun e => by have e : g = g + 1 := e; omega)
      have H8 := Lib.hid (And.intro hz8 (And.intro hc8 (And.intro hown8 (And.intro hval8 hdv)))); clear hz8 hc8 hown8 hval8 hdv hk8 hw8 g2
      go_wp2_with (refine wpList_store_row rfl 44 (.tmp 6) (.tmp 27) rfl g #[.int .i64 0, .int .i64 time, .bool true, .slice (some ⟨w3.heap.size, 0, none⟩) 1 1, .bool false, .slice none 0 0] rfl rfl 44 _ H8.out.1 cn.info6 rfl (by simp [Value.oneCell']) ?_)
      have hc9 := cn.chg_row w8 g #[.int .i64 0, .int .i64 time, .bool true, .slice (some ⟨w3.heap.size, 0, none⟩) 1 1, .bool false, .slice none 0 0]
      have hz9 := cn.blk_row H8.out.1 #[.int .i64 0, .int .i64 time, .bool true, .slice (some ⟨w3.heap.size, 0, none⟩) 1 1, .bool false, .slice none 0 0]
      generalize w8.setRow g #[.int .i64 0, .int .i64 time, .bool true, .slice (some ⟨w3.heap.size, 0, none⟩) 1 1, .bool false, .slice none 0 0] = w9 at *
      refine bodyPost_ret (cn.res_cell1 rfl _ _ _ _ _ rfl hz9 Try.underlying44 rfl cn.info6) rfl ?_
      have hgw := H2.out.2.2.2.2.2
      have hc29 : Chg w2 w9 (fun k => k = g + 1 ∨ k = g) := (H8.out.2.1.mono fun _ _ q => .inl q).trans hc9 fun _ _ q => .inr q
      refine ⟨_, _, ?_, (H8.out.2.2.1.chg hc9 fun k hk => by have hk : k = g := hk; omega).up (by omega), (H8.out.2.2.2.1.chg hc9 fun k hk => by have hk : k = g := hk; omega).up (by omega), H2.out.2.1.trans (hc29.below H2.out.2.1.size fun k hk => by omega)⟩
      first | rw [H5.out.2.2.2, H8.out.2.2.2.2] | rw [H8.out.2.2.2.2] | rw [H5.out.2.2.2] | rfl
  · have g1 : decide (0 ≤ key) = false := decide_eq_false hkey
    go_upto_region 5 with fail
    obtain ⟨w5, hw5⟩ : ∃ w5 : World, w5 = w2 := ⟨_, rfl⟩
    rw [← hw5]
    have hk5 : Blk w5 (g + 1) 44 #[.int .i64 0, .int .i64 time, .bool false, .slice none 0 0, .bool false, .slice none 0 0] := by rw [hw5]; exact H2.out.2.2.2.1
    have hc5 : Chg w2 w5 (fun k => k = g + 1) := by rw [hw5]; exact Chg.refl _ _
    have hown : cn.Own (g + 2) w5 (.slice none 0 0) (cn.rec key value time).key := by
      rw [HX.out.2.2.2.2.2.1 (by omega)]
      exact cn.Own.nil _ _
    have hdk : decide (0 ≤ key) = false := g1
    have H5 := Lib.hid (And.intro hk5 (And.intro hc5 (And.intro hown hdk))); clear hk5 hc5 hown hw5 g1 hdk
    by_cases hval : 0 ≤ value
    · have g2 : decide (0 ≤ value) = true := decide_eq_true hval
      have c4 := H5.out.1.cell 4 rfl
      have f4 := H5.out.1.frozen 4
      have l4 := H5.out.1.lt
      go_upto_region 7 with fail
      obtain ⟨w6, hw6⟩ : ∃ w6, w6 = w5.setCell ⟨g + 1, 4, none⟩ (.bool true) := ⟨_, rfl⟩
      rw [← hw6]
      have hk6 : Blk w6 (g + 1) 44 #[.int .i64 0, .int .i64 time, .bool false, .slice none 0 0, .bool true, .slice none 0 0] := by rw [hw6]; exact H5.out.1.set 4 _
      have hc6 : Chg w2 w6 (fun k => k = g + 1) := by rw [hw6]; exact H5.out.2.1.trans (Chg.setCell _ _ _ _) fun _ _ q => q
      have hown6 : cn.Own (g + 2) w6 (.slice none 0 0) (cn.rec key value time).key := by rw [hw6]; exact H5.out.2.2.1.chg (Chg.setCell _ _ _ _) fun k hk => by have hk : k = g + 1 := hk; omega
      have H6 := Lib.hid (And.intro hk6 (And.intro hc6 hown6)); clear hk6 hc6 hown6 hw6 c4 f4 l4
      go_upto_region 8 with (first
        | (go_at_call 38; refine (HX.out.2.2.1 w6).mono ?_; rintro e w7 ⟨rfl, h1, h2, h7⟩; have hk7 := (chg_of (P := fun _ => False) h2).blk H6.out.1 id; have H7 := Lib.hid (And.intro h1 (And.intro h2 (And.intro hk7 h7))); clear h1 h2 h7; have c5 := hk7.cell 5 rfl; have f5 := hk7.frozen 5; have l5 := hk7.lt; clear hk7)
        | (go_at_call 11; refine (HX.out.2.1 _).mono ?_; rintro e wx ⟨rfl, h3⟩; subst h3))
      clear c5 f5 l5
      obtain ⟨w8, hw8⟩ : ∃ w8, w8 = w7.setCell ⟨g + 1, 5, none⟩ (.slice (some ⟨w6.heap.size, 0, none⟩) y y) := ⟨_, rfl⟩
      rw [← hw8]
      have hk8 : Blk w8 (g + 1) 44 #[.int .i64 0, .int .i64 time, .bool false, .slice none 0 0, .bool true, .slice (some ⟨w6.heap.size, 0, none⟩) y y] := by rw [hw8]; exact H7.out.2.2.1.set 5 _
      have hc78 : Chg w7 w8 (fun k => k = g + 1) := by rw [hw8]; exact Chg.setCell _ _ _ _
      have hc8 : Chg w2 w8 (fun k => k = g + 1) := (H6.out.2.1.trans (chg_of (P := fun _ => False) H7.out.2.1) fun _ _ q => q.elim).trans hc78 fun _ _ q => q
      have hs6 : g + 2 ≤ w6.heap.size := by have h1 := H6.out.2.1.size; have h2 := H2.out.1; omega
      have hown8 : cn.Own (g + 2) w8 (.slice none 0 0) (cn.rec key value time).key := (H6.out.2.2.chg (chg_of (P := fun _ => False) H7.out.2.1) fun _ q => q.elim).chg hc78 fun k hk => by have hk : k = g + 1 := hk; omega
      have hval7 : cn.Own (g + 2) w7 (.slice (some ⟨w6.heap.size, 0, none⟩) y y) (cn.rec key value time).val := by
        rw [HX.out.2.2.2.2.2.2.1 (by omega)]
        refine ⟨H7.out.1, fun q hq => ?_⟩
        obtain rfl : w6.heap.size = q := by cases hq; rfl
        exact ⟨hs6, H7.out.2.2.2⟩
      have hval8 : cn.Own (g + 2) w8 (.slice (some ⟨w6.heap.size, 0, none⟩) y y) (cn.rec key value time).val := hval7.chg hc78 fun k hk => by have hk : k = g + 1 := hk; omega
      have hdv : decide (0 ≤ value) = true := g2
      have k0 := hk8.cell 0 rfl
      have k1 := hk8.cell 1 rfl
      have k2 := hk8.cell 2 rfl
      have k3 := hk8.cell 3 rfl
      have k4 := hk8.cell 4 rfl
      have k5 := hk8.cell 5 rfl
      have hz8 := hc8.blk H2.out.2.2.1 (fun e => by have e : g = g + 1 := e; omega)
      have H8 := Lib.hid (And.intro hz8 (And.intro hc8 (And.intro hown8 (And.intro hval8 hdv)))); clear hz8 hc8 hown8 hval8 hdv hk8 H6 H7 hval7 hs6 hc78 hw8 g2
      go_wp2_with (refine wpList_store_row rfl 44 (.tmp 6) (.tmp 27) rfl g #[.int .i64 0, .int .i64 time, .bool false, .slice none 0 0, .bool true, .slice (some ⟨w6.heap.size, 0, none⟩) y y] rfl rfl 44 _ H8.out.1 cn.info6 rfl (by simp [Value.oneCell']) ?_)
      have hc9 := cn.chg_row w8 g #[.int .i64 0, .int .i64 time, .bool false, .slice none 0 0, .bool true, .slice (some ⟨w6.heap.size, 0, none⟩) y y]
      have hz9 := cn.blk_row H8.out.1 #[.int .i64 0, .int .i64 time, .bool false, .slice none 0 0, .bool true, .slice (some ⟨w6.heap.size, 0, none⟩) y y]
      generalize w8.setRow g #[.int .i64 0, .int .i64 time, .bool false, .slice none 0 0, .bool true, .slice (some ⟨w6.heap.size, 0, none⟩) y y] = w9 at *
      refine bodyPost_ret (cn.res_cell1 rfl _ _ _ _ _ rfl hz9 Try.underlying44 rfl cn.info6) rfl ?_
      have hgw := H2.out.2.2.2.2.2
      have hc29 : Chg w2 w9 (fun k => k = g + 1 ∨ k = g) := (H8.out.2.1.mono fun _ _ q => .inl q).trans hc9 fun _ _ q => .inr q
      refine ⟨_, _, ?_, (H8.out.2.2.1.chg hc9 fun k hk => by have hk : k = g := hk; omega).up (by omega), (H8.out.2.2.2.1.chg hc9 fun k hk => by have hk : k = g := hk; omega).up (by omega), H2.out.2.1.trans (hc29.below H2.out.2.1.size fun k hk => by omega)⟩
      first | rw [H5.out.2.2.2, H8.out.2.2.2.2] | rw [H8.out.2.2.2.2] | rw [H5.out.2.2.2] | rfl
    · have g2 : decide (0 ≤ value) = false := decide_eq_false hval
      go_upto_region 8 with fail
      obtain ⟨w8, hw8⟩ : ∃ w8 : World, w8 = w5 := ⟨_, rfl⟩
      rw [← hw8]
      have hk8 : Blk w8 (g + 1) 44 #[.int .i64 0, .int .i64 time, .bool false, .slice none 0 0, .bool false, .slice none 0 0] := by rw [hw8]; exact H5.out.1
      have hc8 : Chg w2 w8 (fun k => k = g + 1) := by rw [hw8]; exact H5.out.2.1
      have hown8 : cn.Own (g + 2) w8 (.slice none 0 0) (cn.rec key value time).key := by rw [hw8]; exact H5.out.2.2.1
      have hval8 : cn.Own (g + 2) w8 (.slice none 0 0) (cn.rec key value time).val := by
        rw [HX.out.2.2.2.2.2.2.2 (by omega)]
        exact cn.Own.nil _ _
      have hdv : decide (0 ≤ value) = false := g2
      have k0 := hk8.cell 0 rfl
      have k1 := hk8.cell 1 rfl
      have k2 := hk8.cell 2 rfl
      have k3 := hk8.cell 3 rfl
      have k4 := hk8.cell 4 rfl
      have k5 := hk8.cell 5 rfl
      have hz8 := hc8.blk H2.out.2.2.1 (fun e => by have e : g = g + 1 := e; omega)
      have H8 := Lib.hid (And.intro hz8 (And.intro hc8 (And.intro hown8 (And.intro hval8 hdv)))); clear hz8 hc8 hown8 hval8 hdv hk8 hw8 g2
      go_wp2_with (refine wpList_store_row rfl 44 (.tmp 6) (.tmp 27) rfl g #[.int .i64 0, .int .i64 time, .bool false, .slice none 0 0, .bool false, .slice none 0 0] rfl rfl 44 _ H8.out.1 cn.info6 rfl (by simp [Value.oneCell']) ?_)
      have hc9 := cn.chg_row w8 g #[.int .i64 0, .int .i64 time, .bool false, .slice none 0 0, .bool false, .slice none 0 0]
      have hz9 := cn.blk_row H8.out.1 #[.int .i64 0, .int .i64 time, .bool false, .slice none 0 0, .bool false, .slice none 0 0]
      generalize w8.setRow g #[.int .i64 0, .int .i64 time, .bool false, .slice none 0 0, .bool false, .slice none 0 0] = w9 at *
      refine bodyPost_ret (cn.res_cell1 rfl _ _ _ _ _ rfl hz9 Try.underlying44 rfl cn.info6) rfl ?_
      have hgw := H2.out.2.2.2.2.2
      have hc29 : Chg w2 w9 (fun k => k = g + 1 ∨ k = g) := (H8.out.2.1.mono fun _ _ q => .inl q).trans hc9 fun _ _ q => .inr q
      refine ⟨_, _, ?_, (H8.out.2.2.1.chg hc9 fun k hk => by have hk : k = g := hk; omega).up (by omega), (H8.out.2.2.2.1.chg hc9 fun k hk => by have hk : k = g := hk; omega).up (by omega), H2.out.2.1.trans (hc29.below H2.out.2.1.size fun k hk => by omega)⟩
      first | rw [H5.out.2.2.2, H8.out.2.2.2.2] | rw [H8.out.2.2.2.2] | rw [H5.out.2.2.2] | rfl
end Go.Proofs.Ytahncanmfjmfnaa

/- Chapter 24: the client in memory: records, producers, readers, and what each call answers. -/
import Derived.Test.YtahncanmfjmfnaaMapG
import Derived.DeepKeys4
import Derived.WideKeyEntry
import Derived.Test.YtahncanmfjmfnaaBtF
import Derived.Deep.QuietTactic
import Derived.Deep.Cut
import Derived.BigQuiet
import Derived.Test.YtahncanmfjmfnaaPlanC
import Derived.Test.YtahncanmfjmfnaaBdG
import Derived.Maps.AppendAt
import Derived.Test.YtahncanmfjmfnaaClone
import Derived.Test.YtahncanmfjmfnaaPlanZ
import Derived.Laws.ResultCell
import Derived.Test.YtahncanmfjmfnaaPlanE
namespace Go.Proofs.Ytahncanmfjmfnaa
section
open Go.RowKit Go.Maps Go.WideMaps
set_option maxRecDepth 100000

theorem slot.laid : laidOutB Try.prog = true := by kernel_rfl
theorem slot.row : (91 : TypeId) < Try.prog.types.size := of_decide_eq_true (by kernel_rfl)
theorem slot.wide : (match Try.prog.underlying 91 with | some (.array _ _) | some (.struct _) => true | _ => false) = true := by rw [Try.underlying91]
theorem slot.law : KeyLaw Try.prog 91 := deep_law_laid slot.laid (m := 2) (by decide) slot.row (by kernel_rfl) slot.wide
theorem slot.type : Try.prog.keyType 91 = true := by kernel_rfl
theorem slot.cells : Try.prog.cellsOf 91 = 2 := by kernel_rfl
theorem slot.cell1 : Try.prog.cellsOf 9 = 1 := by kernel_rfl
theorem slot.cell2 : Try.prog.cellsOf 3 = 1 := by kernel_rfl
theorem slot.size : ∃ n, Try.prog.types.size = n + 1 := by
  have h := slot.row
  exact ⟨Try.prog.types.size - 1, (Nat.succ_pred_eq_of_pos (Nat.lt_of_le_of_lt (Nat.zero_le _) h)).symm⟩
theorem slot.str (n : Nat) (s : ByteArray) (h : s.size ≤ maxLen) : Try.prog.keyLits (n + 1) 9 [.string s] = some [.string s.data.toList] := by
  unfold Program.keyLits
  rw [Try.underlying9]
  exact if_pos h
theorem slot.num (n : Nat) (p : Int) (h : intOk p) : Try.prog.keyLits (n + 1) 3 [.int .i64 p] = some [.int .i64 p] := by
  unfold Program.keyLits
  rw [Try.underlying3]
  exact if_pos ⟨rfl, wf_i64.2 h⟩
theorem slot.str_inv (n : Nat) (cs : List Value) (ls : List Lit) (h : Try.prog.keyLits (n + 1) 9 cs = some ls) : ∃ s, cs = [.string s] ∧ s.size ≤ maxLen ∧ ls = [.string s.data.toList] := by
  unfold Program.keyLits at h
  rw [Try.underlying9] at h
  split at h
  all_goals first | (exfalso; rename_i e; cases e; done) | cases h | skip
  all_goals first | (rename_i e1 e2 _; cases e1; done) | skip
  · rename_i s _
    split at h
    · rename_i hs
      exact ⟨_, rfl, hs, (Option.some.inj h).symm⟩
    · cases h
theorem slot.num_inv (n : Nat) (cs : List Value) (ls : List Lit) (h : Try.prog.keyLits (n + 1) 3 cs = some ls) : ∃ p, cs = [.int .i64 p] ∧ intOk p ∧ ls = [.int .i64 p] := by
  unfold Program.keyLits at h
  rw [Try.underlying3] at h
  split at h
  all_goals first | cases h | skip
  all_goals first | (rename_i e; cases e; done) | skip
  · rename_i q q' m e
    obtain rfl : IntKind.i64 = q := by injection e with e; injection e
    split at h
    · rename_i hq
      obtain ⟨rfl, hw⟩ := hq
      exact ⟨m, rfl, wf_i64.1 hw, (Option.some.inj h).symm⟩
    · cases h
theorem slot.two (s : ByteArray) (p : Int) (hs : s.size ≤ maxLen) (hp : intOk p) : Try.prog.keyLits (Try.prog.types.size + 1) 91 [.string s, .int .i64 p] = some [.string s.data.toList, .int .i64 p] := by
  obtain ⟨n, hn⟩ := slot.size
  rw [hn]
  unfold Program.keyLits
  rw [Try.underlying91]
  dsimp only
  rw [if_pos ⟨by rw [slot.cells]; rfl, by kernel_rfl⟩]
  simp only [List.mapM_cons, List.mapM_nil, slot.cell1, slot.cell2, List.take, List.drop]
  rw [slot.str n s hs, slot.num n p hp]
  rfl
theorem slot.two_inv (cs : List Value) (ls : List Lit) (h : Try.prog.keyLits (Try.prog.types.size + 1) 91 cs = some ls) : ∃ s p, cs = [.string s, .int .i64 p] ∧ s.size ≤ maxLen ∧ intOk p ∧ ls = [.string s.data.toList, .int .i64 p] := by
  obtain ⟨n, hn⟩ := slot.size
  rw [hn] at h
  unfold Program.keyLits at h
  rw [Try.underlying91] at h
  dsimp only at h
  split at h
  · rename_i hc
    rw [slot.cells] at hc
    match cs, hc.1 with
    | [a, b], _ =>
      simp only [List.mapM_cons, List.mapM_nil, slot.cell1, slot.cell2, List.take, List.drop] at h
      cases h1 : Try.prog.keyLits (n + 1) 9 [a] with
      | none => rw [h1] at h; cases h
      | some l1 =>
        cases h2 : Try.prog.keyLits (n + 1) 3 [b] with
        | none => rw [h1, h2] at h; cases h
        | some l2 =>
          rw [h1, h2] at h
          obtain ⟨s, e1, hs, rfl⟩ := slot.str_inv n _ _ h1
          obtain ⟨p, e2, hp, rfl⟩ := slot.num_inv n _ _ h2
          obtain rfl : a = .string s := by simpa using e1
          obtain rfl : b = .int .i64 p := by simpa using e2
          exact ⟨s, p, rfl, hs, hp, (Option.some.inj h).symm⟩
  · cases h
/-- A topic and a partition, as a key. -/
structure SlotK where
  s : ByteArray
  p : Int
  hs : s.size ≤ maxLen
  hp : intOk p
def slotKey : KeyKind SlotK where
  kt := 91
  val x := .agg #[.string x.s, .int .i64 x.p]
  lit x := .string (keyBytes [.string x.s.data.toList, .int .i64 x.p])
  ok _ := True
  keyed := Keyed.of_law slot.law
  key {x} _ := by
    unfold keyOf
    rw [Try.underlying91]
    dsimp only
    rw [if_pos (by rw [slot.type]; simp [Value.formed, Try.underlying91, slot.cells])]
    have := slot.two x.s x.p x.hs x.hp
    rw [show (Value.agg #[.string x.s, .int .i64 x.p]).cells.toList = [.string x.s, .int .i64 x.p] from rfl, this]
    rfl
  inj {x y} h := by
    injection h with h
    have := keyLits_inj (slot.two x.s x.p x.hs x.hp) (slot.two y.s y.p y.hs y.hp) h
    obtain ⟨xs, xp, _, _⟩ := x
    obtain ⟨ys, yp, _, _⟩ := y
    simp only [List.cons.injEq, Lit.string.injEq, Lit.int.injEq, true_and, and_true] at this
    obtain rfl : xs = ys := ByteArray.ext (Array.ext' this.1)
    obtain rfl : xp = yp := this.2
    rfl
  onto {v l} h := by
    obtain ⟨xs, L, rfl, h1, rfl⟩ := keyOf_top slot.wide h
    obtain ⟨s, p, e, hs, hp, rfl⟩ := slot.two_inv _ _ h1
    refine ⟨⟨s, p, hs, hp⟩, trivial, ?_, rfl⟩
    rw [show xs = #[.string s, .int .i64 p] from Array.ext' e]
end
section
open Go.RowKit
set_option maxRecDepth 100000

theorem cn.cells_new (w : World) (cs : List Value) (t : TypeId) (n : Nat) (hn : n = w.heap.size) : ∀ j u, cs[j]? = some u → (w.alloc (.cells cs.toArray t)).cell? ((⟨n, 0, none⟩ : Addr).add j) = some u := by
  subst hn
  intro j u hj
  rw [add_none, Nat.zero_add]
  have h := World.alloc_heap_new w (.cells cs.toArray t)
  unfold World.cell?
  rw [h]
  simpa using hj
/-- The rest of a division, never below 0. -/
def cn.round (k n : Int) : Int := if k.tmod n < 0 then k.tmod n + n else k.tmod n
theorem cn.round_bd (k : Int) {n : Int} (hn : 0 < n) : 0 ≤ cn.round k n ∧ cn.round k n < n := by
  have h1 := Int.tmod_lt_of_pos k hn
  have h2 : -n < k.tmod n := by
    have := Int.tmod_lt_of_pos (-k) hn
    rw [Int.neg_tmod] at this; omega
  unfold cn.round
  split <;> omega
theorem cn.round_any (k n : Int) (hk : -9223372036854775808 ≤ k ∧ k ≤ 9223372036854775807) (hn : 0 < n) (hn2 : n ≤ 1099511627776) (w : World) :
    Calls Try.prog 11 #[.int .i64 k, .int .i64 n] w fun e w' => e = .returned (.int .i64 (cn.round k n)) ∧ w = w' := by
  obtain ⟨k1, k2⟩ := hk
  have h1 := Int.tmod_lt_of_pos k hn
  have h2 : -n < k.tmod n := by
    have := Int.tmod_lt_of_pos (-k) hn
    rw [Int.neg_tmod] at this; omega
  have hne : n ≠ 0 := by omega
  by_cases hneg : k.tmod n < 0
  · have e : cn.round k n = k.tmod n + n := if_pos hneg
    rw [e]
    go_enter Try.func11, Try.ntmps11
    go_wp2
    go_ret
    exact ⟨rfl, rfl⟩
  · have e : cn.round k n = k.tmod n := if_neg hneg
    rw [e]
    go_enter Try.func11, Try.ntmps11
    go_wp2
    go_ret
    exact ⟨rfl, rfl⟩

/-- Bytes that differ. -/
def cn.block (n : Nat) (seed : Int) : List Nat := (List.range n).map fun (i : Nat) => ((seed + (i : Int) * 7) % 256).toNat
theorem cn.make (n : Nat) (hn : n ≤ 3000) : ∀ wx : World, (Instr.makeSlice 33 (.int .i64 (n : Int)) (.int .i64 (n : Int))).run Try.prog wx = .ok (.slice (some ⟨wx.heap.size, 0, none⟩) n n) (wx.alloc (.cells (madeCells #[Value.int .u8 0] n) 5)) := fun wx => by
  obtain ⟨iu, hu, hu0, hu1, hu2⟩ := info_parts infoByte
  have hr := run_make (P := Try.prog) wx 33 5 iu (.int .u8 0) Try.underlying33 hu hu0 .i64 .i64 (n : Int) (n : Int) (by omega) (Int.le_refl _) (by rw [hu2]; omega) (by omega)
  rw [hu1, Int.toNat_natCast, Nat.mul_one] at hr
  exact hr
set_option maxHeartbeats 2000000 in
theorem cn.block_any (n : Nat) (seed : Int) (w : World) (hn : n ≤ 3000) :
    Calls Try.prog 38 #[.int .i64 (n : Int), .int .i64 seed] w fun e w' => e = .returned (.slice (some ⟨w.heap.size, 0, none⟩) n n) ∧ BytesV w' (.slice (some ⟨w.heap.size, 0, none⟩) n n) (cn.block n seed) ∧ Below w.heap.size w w' ∧ w.heap.size < w'.heap.size := by
  have hmk := cn.make n hn
  go_enter Try.func38, Try.ntmps38
  go_upto_region 3 with fail
  obtain ⟨w1, hw1⟩ : ∃ w1, w1 = w.alloc (.cells (madeCells #[Value.int .u8 0] n) 5) := ⟨_, rfl⟩
  obtain ⟨b, hb⟩ : ∃ b, b = w.heap.size := ⟨_, rfl⟩
  have hbk : Blk w1 b 5 (madeCells #[Value.int .u8 0] n) := by rw [hw1, hb]; exact Blk.new _ _ _
  have hb1 : Below b w w1 := by rw [hw1, hb]; exact (Below.refl _ _).alloc (Nat.le_refl _) _
  rw [← hw1, ← hb]
  have H1 := Lib.hid (And.intro hbk (And.intro hb1 hb)); clear hbk hb1 hb hw1 hmk
  go_loopw [6] (fun i wr => ∃ (j : Nat) (cs : Array Value), j ≤ n ∧ i = .int .i64 (j : Int) ∧ Blk wr b 5 cs ∧ cs.size = n ∧ (∀ i, i < j → cs[i]? = some (.int .u8 ((seed + (i : Int) * 7) % 256))) ∧ Below b w wr) (fun i _ => n - (intOf i).toNat)
  case atStart => exact ⟨0, _, by omega, rfl, H1.out.1, by simp [madeCells], fun i hi => absurd hi (by omega), H1.out.2.1⟩
  case round =>
    obtain ⟨j, cs, hj, rfl, hbk, hcs, hpre, hbw⟩ := hrel
    by_cases hlt : j < n
    · have hlt' : (j : Int) < (n : Int) := by omega
      have hfr := hbk.frozen j
      obtain ⟨u, hu⟩ : ∃ u, cs[j]? = some u := ⟨_, Array.getElem?_eq_getElem (by omega)⟩
      have hcell := hbk.cell j hu
      have hbl := hbk.lt
      have HB := Lib.hid (And.intro hbk (And.intro hpre hbw)); clear hbk hpre hbw
      go_wp2_with fail
      clear hcell hfr
      refine ⟨⟨j + 1, cs.setIfInBounds j (.int .u8 ((seed + (j : Int) % 256 * 7) % 256)), by omega, by go_num, HB.out.1.set j _, by simp [hcs], fun i hi => ?_, HB.out.2.2.trans ((Chg.setCell wr b j _).below (by rw [H1.out.2.2]; exact HB.out.2.2.size) fun k hk => by rw [hk]; exact Nat.le_refl _)⟩, by simp [intOf]; omega⟩
      by_cases e : i = j
      · subst e
        rw [Array.getElem?_setIfInBounds_self_of_lt (by omega)]
        have : (seed + (i : Int) % 256 * 7) % 256 = (seed + (i : Int) * 7) % 256 := by omega
        rw [this]
      · rw [Array.getElem?_setIfInBounds_ne (by omega)]
        exact HB.out.2.1 i (by omega)
    · obtain rfl : j = n := by omega
      have HB := Lib.hid (And.intro hbk (And.intro hpre hbw)); clear hbk hpre hbw
      go_wp2_with fail
      go_ret
      have hlen : (cn.block j seed).length = j := by unfold cn.block; simp
      refine ⟨by rw [H1.out.2.2]; rfl, ⟨some ⟨w.heap.size, 0, none⟩, j, by rw [hlen], ?_, by rw [hlen]; exact Nat.le_refl _, by unfold maxLen; omega, fun x hx => ?_⟩, by rw [← H1.out.2.2]; exact HB.out.2.2, by rw [← H1.out.2.2]; exact HB.out.1.lt⟩
      · rw [hlen, ← H1.out.2.2]
        refine fun h0 => ⟨b, 0, rfl, HB.out.1.lt, fun i hi => ?_⟩
        rw [Nat.zero_add]
        refine HB.out.1.cell i ?_
        rw [HB.out.2.1 i hi]
        unfold byteAt cn.block
        simp only [List.getD, List.getElem?_map, List.getElem?_range hi, Option.map_some, Option.getD_some]
        congr 2
        omega
      · obtain ⟨i, -, rfl⟩ := List.mem_map.1 hx
        omega

/-- A record that a key, a value and a time make. -/
def cn.rec (key value time : Int) : Rec := ⟨0, time, decide (0 ≤ key), if 0 ≤ key then [(97 + cn.round key 26).toNat] else [], decide (0 ≤ value), if 0 ≤ value then cn.block (cn.round value 40).toNat value else []⟩
theorem cn.res_cell1 {P : Program} {fn : Func} {p : Tmp} {ty T : TypeId} (h : fn.results = #[.cell p ty]) (tmps : Array Value) (w : World) (g : Nat) (cs : Array Value) (d : TypeDesc) (hp : tmps.getD p undef = .pointer (some ⟨g, 0, none⟩)) (hg : Blk w g T cs)
    (hu : P.underlying ty = some d) (hd : (match d with | .struct _ | .array _ _ => true | _ => false) = true) (hi : (P.info? ty).map (·.size) = some cs.size) :
    (results fn tmps).run P w = .ok (.agg cs) w := by
  have hp' : tmps[p]?.getD undef = .pointer (some ⟨g, 0, none⟩) := by simpa using hp
  simp [results, h, hp', asAddr, run_loadVar_row w g T ty cs (0, 0) d hg hu hd hi]
theorem cn.blk_row {w : World} {p : Nat} {T : TypeId} {cs : Array Value} (h : Blk w p T cs) (c2 : Array Value) : Blk (w.setRow p c2) p T c2 := setRow_heap w p cs c2 T _ h
theorem cn.chg_row (w : World) (g : Nat) (cs : Array Value) : Chg w (w.setRow g cs) (fun k => k = g) := ⟨rfl, rfl, rfl, by simp, fun k _ hk => setRow_other w g k cs hk⟩
theorem cn.info6 : (Try.prog.info? 44).map (·.size) = some 6 := by kernel_rfl
/-- Bytes of one's own, laid since B. -/
def cn.Own (B : Nat) (w : World) (v : Value) (L : List Nat) : Prop := BytesV w v L ∧ ∀ g, v.ownBlock = some g → B ≤ g ∧ g < w.heap.size
theorem cn.Own.chg {B : Nat} {w w' : World} {v : Value} {L : List Nat} {P : Nat → Prop} (h : cn.Own B w v L) (hc : Chg w w' P) (hp : ∀ k, P k → k < B ∨ w.heap.size ≤ k) : cn.Own B w' v L := by
  obtain ⟨⟨A, c, rfl, h1, h2⟩, h3⟩ := h
  refine ⟨⟨A, c, rfl, hc.at' h1 fun h0 b off hb hh => ?_, h2⟩, fun g hg => ⟨(h3 g hg).1, Nat.lt_of_lt_of_le (h3 g hg).2 hc.size⟩⟩
  have h4 := h3 b (by rw [hb]; rfl)
  rcases hp b hh with h5 | h5 <;> omega
theorem cn.Own.nil (B : Nat) (w : World) : cn.Own B w (.slice none 0 0) [] := ⟨⟨none, 0, rfl, fun h => absurd h (by decide), Nat.le_refl _, Nat.zero_le _, fun x hx => by cases hx⟩, fun g hg => by cases hg⟩
theorem cn.Own.up {B B' : Nat} {w : World} {v : Value} {L : List Nat} (h : cn.Own B w v L) (hb : B' ≤ B) : cn.Own B' w v L := ⟨h.1, fun g hg => ⟨Nat.le_trans hb (h.2 g hg).1, (h.2 g hg).2⟩⟩

set_option maxHeartbeats 4000000 in
theorem cn.record_any (key value time : Int) (w : World) (hk : i64ok key) (hv : i64ok value) :
    Calls Try.prog 25 #[.int .i64 key, .int .i64 value, .int .i64 time] w fun e w' => ∃ kv vv, e = .returned (.agg #[.int .i64 0, .int .i64 time, .bool (decide (0 ≤ key)), kv, .bool (decide (0 ≤ value)), vv]) ∧
      cn.Own w.heap.size w' kv (cn.rec key value time).key ∧ cn.Own w.heap.size w' vv (cn.rec key value time).val ∧ Below w.heap.size w w' := by
  have hrk : ∀ wx, Calls Try.prog 11 #[.int .i64 key, .int .i64 26] wx fun e w' => e = .returned (.int .i64 (cn.round key 26)) ∧ wx = w' := fun wx => cn.round_any key 26 hk (by omega) (by omega) wx
  have hrv : ∀ wx, Calls Try.prog 11 #[.int .i64 value, .int .i64 40] wx fun e w' => e = .returned (.int .i64 (cn.round value 40)) ∧ wx = w' := fun wx => cn.round_any value 40 hv (by omega) (by omega) wx
  obtain ⟨x, hx⟩ : ∃ x : Nat, (x : Int) = cn.round key 26 := ⟨(cn.round key 26).toNat, by have := (cn.round_bd key (n := 26) (by omega)).1; omega⟩
  obtain ⟨y, hy⟩ : ∃ y : Nat, (y : Int) = cn.round value 40 := ⟨(cn.round value 40).toNat, by have := (cn.round_bd value (n := 40) (by omega)).1; omega⟩
  have hx1 : x < 26 := by have := (cn.round_bd key (n := 26) (by omega)).2; omega
  have hy1 : y < 40 := by have := (cn.round_bd value (n := 40) (by omega)).2; omega
  rw [← hx] at hrk
  rw [← hy] at hrv
  have hbl : ∀ wx, Calls Try.prog 38 #[.int .i64 (y : Int), .int .i64 value] wx fun e w' => e = .returned (.slice (some ⟨wx.heap.size, 0, none⟩) y y) ∧ BytesV w' (.slice (some ⟨wx.heap.size, 0, none⟩) y y) (cn.block y value) ∧ Below wx.heap.size wx w' ∧ wx.heap.size < w'.heap.size := fun wx => cn.block_any y value wx (by omega)
  have hbyte : ∀ (wx : World) (b : Nat), Blk wx b 5 #[.int .u8 (97 + (x : Int))] → BytesV wx (.slice (some ⟨b, 0, none⟩) 1 1) [97 + x] := fun wx b hb => ⟨some ⟨b, 0, none⟩, 1, rfl, fun _ => ⟨b, 0, rfl, hb.lt, fun j hj => by
    obtain rfl : j = 0 := by simpa using hj
    rw [hb.cell 0 rfl]
    unfold byteAt
    have : (97 + (x : Int)) = ((97 + x : Nat) : Int) := by omega
    rw [this]
    rfl⟩, by simp, by unfold maxLen; decide, fun z hz => by
    obtain rfl : z = 97 + x := by simpa using hz
    omega⟩
  have hkk : 0 ≤ key → (cn.rec key value time).key = [97 + x] := fun h => by unfold cn.rec; dsimp only; rw [if_pos h, ← hx]; congr 1
  have hkn : ¬ 0 ≤ key → (cn.rec key value time).key = [] := fun h => if_neg h
  have hvv : 0 ≤ value → (cn.rec key value time).val = cn.block y value := fun h => by unfold cn.rec; dsimp only; rw [if_pos h, ← hy, Int.toNat_natCast]
  have hvn : ¬ 0 ≤ value → (cn.rec key value time).val = [] := fun h => if_neg h
  have HX := Lib.hid (And.intro hrk (And.intro hrv (And.intro hbl (And.intro hbyte (And.intro hkk (And.intro hkn (And.intro hvv hvn))))))); clear hrk hrv hbl hbyte hkk hkn hvv hvn hx hy hk hv
  obtain ⟨g, hg⟩ : ∃ g, g = w.heap.size := ⟨_, rfl⟩
  obtain ⟨w2, hw2⟩ : ∃ w2, w2 = (w.alloc (.cells #[.int .i64 0, .int .i64 0, .bool false, .slice none 0 0, .bool false, .slice none 0 0] 44)).alloc (.cells #[.int .i64 0, .int .i64 time, .bool false, .slice none 0 0, .bool false, .slice none 0 0] 44) := ⟨_, rfl⟩
  have hs2 : w2.heap.size = g + 2 := by rw [hw2, hg]; simp
  have hb2 : Below w.heap.size w w2 := by rw [hw2]; exact ((Below.refl _ _).alloc (Nat.le_refl _) _).alloc (by simp) _
  have hz2 : Blk w2 g 44 #[.int .i64 0, .int .i64 0, .bool false, .slice none 0 0, .bool false, .slice none 0 0] := by rw [hw2, hg]; exact (Below.heap_alloc _ _ _ (by simp)).trans (Blk.new w _ _)
  have hk2 : Blk w2 (g + 1) 44 #[.int .i64 0, .int .i64 time, .bool false, .slice none 0 0, .bool false, .slice none 0 0] := by
    have h := Blk.new (w.alloc (.cells #[.int .i64 0, .int .i64 0, .bool false, .slice none 0 0, .bool false, .slice none 0 0] 44)) 44 #[.int .i64 0, .int .i64 time, .bool false, .slice none 0 0, .bool false, .slice none 0 0]
    rw [World.size_alloc, ← hg, ← hw2] at h
    exact h
  have H2 := Lib.hid (And.intro hs2 (And.intro hb2 (And.intro hz2 (And.intro hk2 (And.intro hw2 hg))))); clear hs2 hb2 hz2 hk2 hw2 hg
  go_enter Try.func25, Try.ntmps25
  go_upto_region 2 with fail
  rw [← H2.out.2.2.2.2.2, ← H2.out.2.2.2.2.1]
  by_cases hkey : 0 ≤ key
  · have g1 : decide (0 ≤ key) = true := decide_eq_true hkey
    have c2 := H2.out.2.2.2.1.cell 2 rfl
    have f2 := H2.out.2.2.2.1.frozen 2
    have l2 := H2.out.2.2.2.1.lt
    go_upto_region 4 with fail
    obtain ⟨w3, hw3⟩ : ∃ w3, w3 = w2.setCell ⟨g + 1, 2, none⟩ (.bool true) := ⟨_, rfl⟩
    rw [← hw3]
    have hk3 : Blk w3 (g + 1) 44 #[.int .i64 0, .int .i64 time, .bool true, .slice none 0 0, .bool false, .slice none 0 0] := by rw [hw3]; exact H2.out.2.2.2.1.set 2 _
    have hc3 : Chg w2 w3 (fun k => k = g + 1) := by rw [hw3]; exact Chg.setCell _ _ _ _
    obtain ⟨w4, hw4⟩ : ∃ w4, w4 = w3.alloc (.cells #[.int .u8 (97 + (x : Int))] 5) := ⟨_, rfl⟩
    have hk4 : Blk w4 (g + 1) 44 #[.int .i64 0, .int .i64 time, .bool true, .slice none 0 0, .bool false, .slice none 0 0] := by rw [hw4]; exact (Chg.alloc _ _ (fun _ => False)).blk hk3 id
    have hn4 : Blk w4 w3.heap.size 5 #[.int .u8 (97 + (x : Int))] := by rw [hw4]; exact Blk.new _ _ _
    have hc4 : Chg w2 w4 (fun k => k = g + 1) := by rw [hw4]; exact hc3.trans (Chg.alloc _ _ (fun _ => False)) fun _ _ q => q.elim
    have c3 := hk4.cell 3 rfl
    have f3 := hk4.frozen 3
    have l3 := hk4.lt
    have hs3 := hc3.size
    rw [hw4] at c3 f3 l3
    have H4 := Lib.hid (And.intro hk4 (And.intro hn4 (And.intro hc4 (And.intro hw4 hs3)))); clear hk4 hn4 hc4 hw4 hs3 hk3 hc3 hw3 c2 f2 l2
    go_upto_region 5 with (go_at_call 11; refine (HX.out.1 _).mono ?_; rintro e wx ⟨rfl, h3⟩; subst h3)
    rw [← H4.out.2.2.2.1]
    clear c3 f3 l3
    obtain ⟨w5, hw5⟩ : ∃ w5, w5 = w4.setCell ⟨g + 1, 3, none⟩ (.slice (some ⟨w3.heap.size, 0, none⟩) 1 1) := ⟨_, rfl⟩
    rw [← hw5]
    have hk5 : Blk w5 (g + 1) 44 #[.int .i64 0, .int .i64 time, .bool true, .slice (some ⟨w3.heap.size, 0, none⟩) 1 1, .bool false, .slice none 0 0] := by rw [hw5]; exact H4.out.1.set 3 _
    have hc5 : Chg w2 w5 (fun k => k = g + 1) := by rw [hw5]; exact H4.out.2.2.1.trans (Chg.setCell _ _ _ _) fun _ _ q => q
    have hn5 : Blk w5 w3.heap.size 5 #[.int .u8 (97 + (x : Int))] := by rw [hw5]; exact (Chg.setCell _ _ _ _).blk H4.out.2.1 (fun e => by have h1 := H4.out.2.2.2.2; have h2 := H2.out.1; have e : w3.heap.size = g + 1 := e; omega)
    have hown : cn.Own (g + 2) w5 (.slice (some ⟨w3.heap.size, 0, none⟩) 1 1) (cn.rec key value time).key := by
      rw [HX.out.2.2.2.2.1 (by omega)]
      exact ⟨HX.out.2.2.2.1 w5 _ hn5, fun q hq => by
        obtain rfl : w3.heap.size = q := by cases hq; rfl
        exact ⟨by have h1 := H4.out.2.2.2.2; have h2 := H2.out.1; omega, hn5.lt⟩⟩
    have hdk : decide (0 ≤ key) = true := g1
    have H5 := Lib.hid (And.intro hk5 (And.intro hc5 (And.intro hown hdk))); clear hk5 hc5 hown hn5 hw5 H4 g1 hdk
    by_cases hval : 0 ≤ value
    · have g2 : decide (0 ≤ value) = true := decide_eq_true hval
      have c4 := H5.out.1.cell 4 rfl
      have f4 := H5.out.1.frozen 4
      have l4 := H5.out.1.lt
      go_upto_region 7 with fail
      obtain ⟨w6, hw6⟩ : ∃ w6, w6 = w5.setCell ⟨g + 1, 4, none⟩ (.bool true) := ⟨_, rfl⟩
      rw [← hw6]
      have hk6 : Blk w6 (g + 1) 44 #[.int .i64 0, .int .i64 time, .bool true, .slice (some ⟨w3.heap.size, 0, none⟩) 1 1, .bool true, .slice none 0 0] := by rw [hw6]; exact H5.out.1.set 4 _
      have hc6 : Chg w2 w6 (fun k => k = g + 1) := by rw [hw6]; exact H5.out.2.1.trans (Chg.setCell _ _ _ _) fun _ _ q => q
      have hown6 : cn.Own (g + 2) w6 (.slice (some ⟨w3.heap.size, 0, none⟩) 1 1) (cn.rec key value time).key := by rw [hw6]; exact H5.out.2.2.1.chg (Chg.setCell _ _ _ _) fun k hk => by have hk : k = g + 1 := hk; omega
      have H6 := Lib.hid (And.intro hk6 (And.intro hc6 hown6)); clear hk6 hc6 hown6 hw6 c4 f4 l4
      go_upto_region 8 with (first
        | (go_at_call 38; refine (HX.out.2.2.1 w6).mono ?_; rintro e w7 ⟨rfl, h1, h2, h7⟩; have hk7 := (chg_of (P := fun _ => False) h2).blk H6.out.1 id; have H7 := Lib.hid (And.intro h1 (And.intro h2 (And.intro hk7 h7))); clear h1 h2 h7; have c5 := hk7.cell 5 rfl; have f5 := hk7.frozen 5; have l5 := hk7.lt; clear hk7)
        | (go_at_call 11; refine (HX.out.2.1 _).mono ?_; rintro e wx ⟨rfl, h3⟩; subst h3))
      clear c5 f5 l5
      obtain ⟨w8, hw8⟩ : ∃ w8, w8 = w7.setCell ⟨g + 1, 5, none⟩ (.slice (some ⟨w6.heap.size, 0, none⟩) y y) := ⟨_, rfl⟩
      rw [← hw8]
      have hk8 : Blk w8 (g + 1) 44 #[.int .i64 0, .int .i64 time, .bool true, .slice (some ⟨w3.heap.size, 0, none⟩) 1 1, .bool true, .slice (some ⟨w6.heap.size, 0, none⟩) y y] := by rw [hw8]; exact H7.out.2.2.1.set 5 _
      have hc78 : Chg w7 w8 (fun k => k = g + 1) := by rw [hw8]; exact Chg.setCell _ _ _ _
      have hc8 : Chg w2 w8 (fun k => k = g + 1) := (H6.out.2.1.trans (chg_of (P := fun _ => False) H7.out.2.1) fun _ _ q => q.elim).trans hc78 fun _ _ q => q
      have hs6 : g + 2 ≤ w6.heap.size := by have h1 := H6.out.2.1.size; have h2 := H2.out.1; omega
      have hown8 : cn.Own (g + 2) w8 (.slice (some ⟨w3.heap.size, 0, none⟩) 1 1) (cn.rec key value time).key := (H6.out.2.2.chg (chg_of (P := fun _ => False) H7.out.2.1) fun _ q => q.elim).chg hc78 fun k hk => by have hk : k = g + 1 := hk; omega
      have hval7 : cn.Own (g + 2) w7 (.slice (some ⟨w6.heap.size, 0, none⟩) y y) (cn.rec key value time).val := by
        rw [HX.out.2.2.2.2.2.2.1 (by omega)]
        refine ⟨H7.out.1, fun q hq => ?_⟩
        obtain rfl : w6.heap.size = q := by cases hq; rfl
        exact ⟨hs6, H7.out.2.2.2⟩
      have hval8 : cn.Own (g + 2) w8 (.slice (some ⟨w6.heap.size, 0, none⟩) y y) (cn.rec key value time).val := hval7.chg hc78 fun k hk => by have hk : k = g + 1 := hk; omega
      have hdv : decide (0 ≤ value) = true := g2
      have k0 := hk8.cell 0 rfl
      have k1 := hk8.cell 1 rfl
      have k2 := hk8.cell 2 rfl
      have k3 := hk8.cell 3 rfl
      have k4 := hk8.cell 4 rfl
      have k5 := hk8.cell 5 rfl
      have hz8 := hc8.blk H2.out.2.2.1 (fun e => by have e : g = g + 1 := e; omega)
      have H8 := Lib.hid (And.intro hz8 (And.intro hc8 (And.intro hown8 (And.intro hval8 hdv)))); clear hz8 hc8 hown8 hval8 hdv hk8 H6 H7 hval7 hs6 hc78 hw8 g2
      go_wp2_with (refine wpList_store_row rfl 44 (.tmp 6) (.tmp 27) rfl g #[.int .i64 0, .int .i64 time, .bool true, .slice (some ⟨w3.heap.size, 0, none⟩) 1 1, .bool true, .slice (some ⟨w6.heap.size, 0, none⟩) y y] rfl rfl 44 _ H8.out.1 cn.info6 rfl (by simp [Value.oneCell']) ?_)
      have hc9 := cn.chg_row w8 g #[.int .i64 0, .int .i64 time, .bool true, .slice (some ⟨w3.heap.size, 0, none⟩) 1 1, .bool true, .slice (some ⟨w6.heap.size, 0, none⟩) y y]
      have hz9 := cn.blk_row H8.out.1 #[.int .i64 0, .int .i64 time, .bool true, .slice (some ⟨w3.heap.size, 0, none⟩) 1 1, .bool true, .slice (some ⟨w6.heap.size, 0, none⟩) y y]
      generalize w8.setRow g #[.int .i64 0, .int .i64 time, .bool true, .slice (some ⟨w3.heap.size, 0, none⟩) 1 1, .bool true, .slice (some ⟨w6.heap.size, 0, none⟩) y y] = w9 at *
      refine bodyPost_ret (cn.res_cell1 rfl _ _ _ _ _ rfl hz9 Try.underlying44 rfl cn.info6) rfl ?_
      have hgw := H2.out.2.2.2.2.2
      have hc29 : Chg w2 w9 (fun k => k = g + 1 ∨ k = g) := (H8.out.2.1.mono fun _ _ q => .inl q).trans hc9 fun _ _ q => .inr q
      refine ⟨_, _, ?_, (H8.out.2.2.1.chg hc9 fun k hk => by have hk : k = g := hk; omega).up (by omega), (H8.out.2.2.2.1.chg hc9 fun k hk => by have hk : k = g := hk; omega).up (by omega), H2.out.2.1.trans (hc29.below H2.out.2.1.size fun k hk => by omega)⟩
      first | rw [H5.out.2.2.2, H8.out.2.2.2.2] | rw [H8.out.2.2.2.2] | rw [H5.out.2.2.2] | rfl
    · have g2 : decide (0 ≤ value) = false := decide_eq_false hval
      go_upto_region 8 with fail
      obtain ⟨w8, hw8⟩ : ∃ w8 : World, w8 = w5 := ⟨_, rfl⟩
      rw [← hw8]
      have hk8 : Blk w8 (g + 1) 44 #[.int .i64 0, .int .i64 time, .bool true, .slice (some ⟨w3.heap.size, 0, none⟩) 1 1, .bool false, .slice none 0 0] := by rw [hw8]; exact H5.out.1
      have hc8 : Chg w2 w8 (fun k => k = g + 1) := by rw [hw8]; exact H5.out.2.1
      have hown8 : cn.Own (g + 2) w8 (.slice (some ⟨w3.heap.size, 0, none⟩) 1 1) (cn.rec key value time).key := by rw [hw8]; exact H5.out.2.2.1
      have hval8 : cn.Own (g + 2) w8 (.slice none 0 0) (cn.rec key value time).val := by
        rw [HX.out.2.2.2.2.2.2.2 (by omega)]
        exact cn.Own.nil _ _
      have hdv : decide (0 ≤ value) = false := g2
      have k0 := hk8.cell 0 rfl
      have k1 := hk8.cell 1 rfl
      have k2 := hk8.cell 2 rfl
      have k3 := hk8.cell 3 rfl
      have k4 := hk8.cell 4 rfl
      have k5 := hk8.cell 5 rfl
      have hz8 := hc8.blk H2.out.2.2.1 (fun e => by have e : g = g + 1 := e; omega)
      have H8 := Lib.hid (And.intro hz8 (And.intro hc8 (And.intro hown8 (And.intro hval8 hdv)))); clear hz8 hc8 hown8 hval8 hdv hk8 hw8 g2
      go_wp2_with (refine wpList_store_row rfl 44 (.tmp 6) (.tmp 27) rfl g #[.int .i64 0, .int .i64 time, .bool true, .slice (some ⟨w3.heap.size, 0, none⟩) 1 1, .bool false, .slice none 0 0] rfl rfl 44 _ H8.out.1 cn.info6 rfl (by simp [Value.oneCell']) ?_)
      have hc9 := cn.chg_row w8 g #[.int .i64 0, .int .i64 time, .bool true, .slice (some ⟨w3.heap.size, 0, none⟩) 1 1, .bool false, .slice none 0 0]
      have hz9 := cn.blk_row H8.out.1 #[.int .i64 0, .int .i64 time, .bool true, .slice (some ⟨w3.heap.size, 0, none⟩) 1 1, .bool false, .slice none 0 0]
      generalize w8.setRow g #[.int .i64 0, .int .i64 time, .bool true, .slice (some ⟨w3.heap.size, 0, none⟩) 1 1, .bool false, .slice none 0 0] = w9 at *
      refine bodyPost_ret (cn.res_cell1 rfl _ _ _ _ _ rfl hz9 Try.underlying44 rfl cn.info6) rfl ?_
      have hgw := H2.out.2.2.2.2.2
      have hc29 : Chg w2 w9 (fun k => k = g + 1 ∨ k = g) := (H8.out.2.1.mono fun _ _ q => .inl q).trans hc9 fun _ _ q => .inr q
      refine ⟨_, _, ?_, (H8.out.2.2.1.chg hc9 fun k hk => by have hk : k = g := hk; omega).up (by omega), (H8.out.2.2.2.1.chg hc9 fun k hk => by have hk : k = g := hk; omega).up (by omega), H2.out.2.1.trans (hc29.below H2.out.2.1.size fun k hk => by omega)⟩
      first | rw [H5.out.2.2.2, H8.out.2.2.2.2] | rw [H8.out.2.2.2.2] | rw [H5.out.2.2.2] | rfl
  · have g1 : decide (0 ≤ key) = false := decide_eq_false hkey
    go_upto_region 5 with fail
    obtain ⟨w5, hw5⟩ : ∃ w5 : World, w5 = w2 := ⟨_, rfl⟩
    rw [← hw5]
    have hk5 : Blk w5 (g + 1) 44 #[.int .i64 0, .int .i64 time, .bool false, .slice none 0 0, .bool false, .slice none 0 0] := by rw [hw5]; exact H2.out.2.2.2.1
    have hc5 : Chg w2 w5 (fun k => k = g + 1) := by rw [hw5]; exact Chg.refl _ _
    have hown : cn.Own (g + 2) w5 (.slice none 0 0) (cn.rec key value time).key := by
      rw [HX.out.2.2.2.2.2.1 (by omega)]
      exact cn.Own.nil _ _
    have hdk : decide (0 ≤ key) = false := g1
    have H5 := Lib.hid (And.intro hk5 (And.intro hc5 (And.intro hown hdk))); clear hk5 hc5 hown hw5 g1 hdk
    by_cases hval : 0 ≤ value
    · have g2 : decide (0 ≤ value) = true := decide_eq_true hval
      have c4 := H5.out.1.cell 4 rfl
      have f4 := H5.out.1.frozen 4
      have l4 := H5.out.1.lt
      go_upto_region 7 with fail
      obtain ⟨w6, hw6⟩ : ∃ w6, w6 = w5.setCell ⟨g + 1, 4, none⟩ (.bool true) := ⟨_, rfl⟩
      rw [← hw6]
      have hk6 : Blk w6 (g + 1) 44 #[.int .i64 0, .int .i64 time, .bool false, .slice none 0 0, .bool true, .slice none 0 0] := by rw [hw6]; exact H5.out.1.set 4 _
      have hc6 : Chg w2 w6 (fun k => k = g + 1) := by rw [hw6]; exact H5.out.2.1.trans (Chg.setCell _ _ _ _) fun _ _ q => q
      have hown6 : cn.Own (g + 2) w6 (.slice none 0 0) (cn.rec key value time).key := by rw [hw6]; exact H5.out.2.2.1.chg (Chg.setCell _ _ _ _) fun k hk => by have hk : k = g + 1 := hk; omega
      have H6 := Lib.hid (And.intro hk6 (And.intro hc6 hown6)); clear hk6 hc6 hown6 hw6 c4 f4 l4
      go_upto_region 8 with (first
        | (go_at_call 38; refine (HX.out.2.2.1 w6).mono ?_; rintro e w7 ⟨rfl, h1, h2, h7⟩; have hk7 := (chg_of (P := fun _ => False) h2).blk H6.out.1 id; have H7 := Lib.hid (And.intro h1 (And.intro h2 (And.intro hk7 h7))); clear h1 h2 h7; have c5 := hk7.cell 5 rfl; have f5 := hk7.frozen 5; have l5 := hk7.lt; clear hk7)
        | (go_at_call 11; refine (HX.out.2.1 _).mono ?_; rintro e wx ⟨rfl, h3⟩; subst h3))
      clear c5 f5 l5
      obtain ⟨w8, hw8⟩ : ∃ w8, w8 = w7.setCell ⟨g + 1, 5, none⟩ (.slice (some ⟨w6.heap.size, 0, none⟩) y y) := ⟨_, rfl⟩
      rw [← hw8]
      have hk8 : Blk w8 (g + 1) 44 #[.int .i64 0, .int .i64 time, .bool false, .slice none 0 0, .bool true, .slice (some ⟨w6.heap.size, 0, none⟩) y y] := by rw [hw8]; exact H7.out.2.2.1.set 5 _
      have hc78 : Chg w7 w8 (fun k => k = g + 1) := by rw [hw8]; exact Chg.setCell _ _ _ _
      have hc8 : Chg w2 w8 (fun k => k = g + 1) := (H6.out.2.1.trans (chg_of (P := fun _ => False) H7.out.2.1) fun _ _ q => q.elim).trans hc78 fun _ _ q => q
      have hs6 : g + 2 ≤ w6.heap.size := by have h1 := H6.out.2.1.size; have h2 := H2.out.1; omega
      have hown8 : cn.Own (g + 2) w8 (.slice none 0 0) (cn.rec key value time).key := (H6.out.2.2.chg (chg_of (P := fun _ => False) H7.out.2.1) fun _ q => q.elim).chg hc78 fun k hk => by have hk : k = g + 1 := hk; omega
      have hval7 : cn.Own (g + 2) w7 (.slice (some ⟨w6.heap.size, 0, none⟩) y y) (cn.rec key value time).val := by
        rw [HX.out.2.2.2.2.2.2.1 (by omega)]
        refine ⟨H7.out.1, fun q hq => ?_⟩
        obtain rfl : w6.heap.size = q := by cases hq; rfl
        exact ⟨hs6, H7.out.2.2.2⟩
      have hval8 : cn.Own (g + 2) w8 (.slice (some ⟨w6.heap.size, 0, none⟩) y y) (cn.rec key value time).val := hval7.chg hc78 fun k hk => by have hk : k = g + 1 := hk; omega
      have hdv : decide (0 ≤ value) = true := g2
      have k0 := hk8.cell 0 rfl
      have k1 := hk8.cell 1 rfl
      have k2 := hk8.cell 2 rfl
      have k3 := hk8.cell 3 rfl
      have k4 := hk8.cell 4 rfl
      have k5 := hk8.cell 5 rfl
      have hz8 := hc8.blk H2.out.2.2.1 (fun e => by have e : g = g + 1 := e; omega)
      have H8 := Lib.hid (And.intro hz8 (And.intro hc8 (And.intro hown8 (And.intro hval8 hdv)))); clear hz8 hc8 hown8 hval8 hdv hk8 H6 H7 hval7 hs6 hc78 hw8 g2
      go_wp2_with (refine wpList_store_row rfl 44 (.tmp 6) (.tmp 27) rfl g #[.int .i64 0, .int .i64 time, .bool false, .slice none 0 0, .bool true, .slice (some ⟨w6.heap.size, 0, none⟩) y y] rfl rfl 44 _ H8.out.1 cn.info6 rfl (by simp [Value.oneCell']) ?_)
      have hc9 := cn.chg_row w8 g #[.int .i64 0, .int .i64 time, .bool false, .slice none 0 0, .bool true, .slice (some ⟨w6.heap.size, 0, none⟩) y y]
      have hz9 := cn.blk_row H8.out.1 #[.int .i64 0, .int .i64 time, .bool false, .slice none 0 0, .bool true, .slice (some ⟨w6.heap.size, 0, none⟩) y y]
      generalize w8.setRow g #[.int .i64 0, .int .i64 time, .bool false, .slice none 0 0, .bool true, .slice (some ⟨w6.heap.size, 0, none⟩) y y] = w9 at *
      refine bodyPost_ret (cn.res_cell1 rfl _ _ _ _ _ rfl hz9 Try.underlying44 rfl cn.info6) rfl ?_
      have hgw := H2.out.2.2.2.2.2
      have hc29 : Chg w2 w9 (fun k => k = g + 1 ∨ k = g) := (H8.out.2.1.mono fun _ _ q => .inl q).trans hc9 fun _ _ q => .inr q
      refine ⟨_, _, ?_, (H8.out.2.2.1.chg hc9 fun k hk => by have hk : k = g := hk; omega).up (by omega), (H8.out.2.2.2.1.chg hc9 fun k hk => by have hk : k = g := hk; omega).up (by omega), H2.out.2.1.trans (hc29.below H2.out.2.1.size fun k hk => by omega)⟩
      first | rw [H5.out.2.2.2, H8.out.2.2.2.2] | rw [H8.out.2.2.2.2] | rw [H5.out.2.2.2] | rfl
    · have g2 : decide (0 ≤ value) = false := decide_eq_false hval
      go_upto_region 8 with fail
      obtain ⟨w8, hw8⟩ : ∃ w8 : World, w8 = w5 := ⟨_, rfl⟩
      rw [← hw8]
      have hk8 : Blk w8 (g + 1) 44 #[.int .i64 0, .int .i64 time, .bool false, .slice none 0 0, .bool false, .slice none 0 0] := by rw [hw8]; exact H5.out.1
      have hc8 : Chg w2 w8 (fun k => k = g + 1) := by rw [hw8]; exact H5.out.2.1
      have hown8 : cn.Own (g + 2) w8 (.slice none 0 0) (cn.rec key value time).key := by rw [hw8]; exact H5.out.2.2.1
      have hval8 : cn.Own (g + 2) w8 (.slice none 0 0) (cn.rec key value time).val := by
        rw [HX.out.2.2.2.2.2.2.2 (by omega)]
        exact cn.Own.nil _ _
      have hdv : decide (0 ≤ value) = false := g2
      have k0 := hk8.cell 0 rfl
      have k1 := hk8.cell 1 rfl
      have k2 := hk8.cell 2 rfl
      have k3 := hk8.cell 3 rfl
      have k4 := hk8.cell 4 rfl
      have k5 := hk8.cell 5 rfl
      have hz8 := hc8.blk H2.out.2.2.1 (fun e => by have e : g = g + 1 := e; omega)
      have H8 := Lib.hid (And.intro hz8 (And.intro hc8 (And.intro hown8 (And.intro hval8 hdv)))); clear hz8 hc8 hown8 hval8 hdv hk8 hw8 g2
      go_wp2_with (refine wpList_store_row rfl 44 (.tmp 6) (.tmp 27) rfl g #[.int .i64 0, .int .i64 time, .bool false, .slice none 0 0, .bool false, .slice none 0 0] rfl rfl 44 _ H8.out.1 cn.info6 rfl (by simp [Value.oneCell']) ?_)
      have hc9 := cn.chg_row w8 g #[.int .i64 0, .int .i64 time, .bool false, .slice none 0 0, .bool false, .slice none 0 0]
      have hz9 := cn.blk_row H8.out.1 #[.int .i64 0, .int .i64 time, .bool false, .slice none 0 0, .bool false, .slice none 0 0]
      generalize w8.setRow g #[.int .i64 0, .int .i64 time, .bool false, .slice none 0 0, .bool false, .slice none 0 0] = w9 at *
      refine bodyPost_ret (cn.res_cell1 rfl _ _ _ _ _ rfl hz9 Try.underlying44 rfl cn.info6) rfl ?_
      have hgw := H2.out.2.2.2.2.2
      have hc29 : Chg w2 w9 (fun k => k = g + 1 ∨ k = g) := (H8.out.2.1.mono fun _ _ q => .inl q).trans hc9 fun _ _ q => .inr q
      refine ⟨_, _, ?_, (H8.out.2.2.1.chg hc9 fun k hk => by have hk : k = g := hk; omega).up (by omega), (H8.out.2.2.2.1.chg hc9 fun k hk => by have hk : k = g := hk; omega).up (by omega), H2.out.2.1.trans (hc29.below H2.out.2.1.size fun k hk => by omega)⟩
      first | rw [H5.out.2.2.2, H8.out.2.2.2.2] | rw [H8.out.2.2.2.2] | rw [H5.out.2.2.2] | rfl
end
section
open Go.RowKit Go.Maps
set_option maxRecDepth 100000

def cn.recs (n : Nat) (seed : Int) : List Rec := (List.range n).map fun (i : Nat) => cn.rec (wrap64 (seed + (i : Int))) (i : Int) (i : Int)
theorem cn.recs_succ (n : Nat) (seed : Int) : cn.recs (n + 1) seed = cn.recs n seed ++ [cn.rec (wrap64 (seed + (n : Int))) (n : Int) (n : Int)] := by unfold cn.recs; simp [List.range_succ]
theorem cn.recs_len (n : Nat) (seed : Int) : (cn.recs n seed).length = n := by unfold cn.recs; simp
theorem cn.infoRec : (Try.prog.info? 44).map (fun i => (i.zero, i.size, i.bytes)) = some (some (.agg #[.int .i64 0, .int .i64 0, .bool false, .slice none 0 0, .bool false, .slice none 0 0]), 6, 80) := by kernel_rfl

set_option maxHeartbeats 4000000 in
theorem cn.records_any (n : Nat) (seed : Int) (w : World) (hn : n ≤ 1000) :
    Calls Try.prog 12 #[.int .i64 (n : Int), .int .i64 seed] w fun e w' => ∃ v, e = .returned v ∧ RowR w' w.heap.size v (cn.recs n seed) ∧ Below w.heap.size w w' := by
  obtain ⟨i0, hi0, hz0, hz1, hz2⟩ := info_parts cn.infoRec
  have HI := Lib.hid (And.intro hi0 (And.intro hz0 (And.intro hz1 hz2))); clear hi0 hz0 hz1 hz2
  go_enter Try.func12, Try.ntmps12
  go_upto_region 3 with fail
  go_loopw [5, 6] (fun l i wr => ∃ (j : Nat), j ≤ n ∧ i = .int .i64 (j : Int) ∧ RowR wr w.heap.size l (cn.recs j seed) ∧ Below w.heap.size w wr) (fun _ i _ => n - (intOf i).toNat)
  case atStart => exact ⟨0, by omega, rfl, RowR.nil _ _, Below.refl _ _⟩
  case round =>
    obtain ⟨j, hj, rfl, hrow, hbw⟩ := hrel
    by_cases hlt : j < n
    · have hlt' : (j : Int) < (n : Int) := by omega
      have hrec := cn.record_any (wrap64 (seed + (j : Int))) (j : Int) (j : Int) wr (wrap_ok _) ⟨by omega, by omega⟩
      have HREC := Lib.hid hrec; clear hrec
      obtain ⟨r, hr⟩ : ∃ r, r = cn.rec (wrap64 (seed + (j : Int))) (j : Int) (j : Int) := ⟨_, rfl⟩
      have hsucc := cn.recs_succ j seed
      rw [← hr] at hsucc HREC
      have hr1 : r.off = 0 ∧ r.time = (j : Int) ∧ r.hasKey = decide (0 ≤ wrap64 (seed + (j : Int))) ∧ r.hasVal = decide (0 ≤ (j : Int)) := by rw [hr]; exact ⟨rfl, rfl, rfl, rfl⟩
      have hlen := cn.recs_len j seed
      obtain ⟨rs, hrs⟩ : ∃ rs, rs = cn.recs j seed := ⟨_, rfl⟩
      rw [← hrs] at hsucc hlen hrow
      obtain ⟨xs0, hown0, hcells0⟩ := id hrow
      rw [hlen] at hown0
      obtain ⟨Ar, cr, rfl, -, -⟩ := own_at hown0
      have hrlt := hown0.lt
      have HROW := Lib.hid (And.intro hrow (And.intro hbw (And.intro hsucc (And.intro hlen hr1)))); clear hrow hbw hsucc hlen hr1 hr hrs hown0 hcells0
      go_wp2_with fail
      refine HREC.out.mono ?_
      rintro e w4 ⟨kv, vv, rfl, hok, hov, hb4⟩
      obtain ⟨Ak, nk, ck, rfl⟩ : ∃ A n c, kv = .slice A n c := by obtain ⟨A, c, e, -⟩ := hok.1; exact ⟨A, _, c, e⟩
      obtain ⟨Av, nv, cv, rfl⟩ : ∃ A n c, vv = .slice A n c := by obtain ⟨A, c, e, -⟩ := hov.1; exact ⟨A, _, c, e⟩
      obtain ⟨kb, vb, hkb, hvb⟩ : ∃ kb vb : Bool, kb = decide (0 ≤ wrap64 (seed + (j : Int))) ∧ vb = decide (0 ≤ (j : Int)) := ⟨_, _, rfl, rfl⟩
      rw [← hkb, ← hvb]
      obtain ⟨w5, hw5⟩ : ∃ w5, w5 = w4.alloc (.cells #[.int .i64 0, .int .i64 (j : Int), .bool kb, .slice Ak nk ck, .bool vb, .slice Av nv cv] 44) := ⟨_, rfl⟩
      have hb5 : Below wr.heap.size wr w5 := by rw [hw5]; exact hb4.alloc hb4.size _
      have hs5 : w5.heap.size = w4.heap.size + 1 := by rw [hw5]; exact World.size_alloc _ _
      obtain ⟨xs, hown, hcells⟩ := HROW.out.1.below hb5
      have hxl := hown.1
      rw [HROW.out.2.2.2.1] at hown hxl
      have hs4 := hb4.size
      have hkey : ∀ {u : Value} {K : List Nat}, cn.Own wr.heap.size w4 u K → KeyR w5 w.heap.size (.slice Ar j cr) u K := fun {u K} h => by
        have h5 : cn.Own wr.heap.size w5 u K := by rw [hw5]; exact h.chg (Chg.alloc _ _ (fun _ => False)) fun _ q => q.elim
        refine ⟨h5.1, fun q hq => ⟨Nat.le_trans HROW.out.2.1.size (h5.2 q hq).1, (h5.2 q hq).2, fun hh => ?_⟩⟩
        have h6 := (hrlt q hh).2
        have h7 := (h5.2 q hq).1
        omega
      have hkk := hkey hok
      have hvv := hkey hov
      have hcell := cn.cells_new w4 [.int .i64 0, .int .i64 (j : Int), .bool kb, .slice Ak nk ck, .bool vb, .slice Av nv cv] 44 w4.heap.size rfl
      have happ : ∀ v2 w9, w9.ownsRow w.heap.size 44 6 v2 (j + 1) (xs ++ [.int .i64 0, .int .i64 (j : Int), .bool kb, .slice Ak nk ck, .bool vb, .slice Av nv cv]) → w5.grownBy w9 (Value.slice Ar j cr).ownBlock → (v2.ownBlock = (Value.slice Ar j cr).ownBlock ∨ v2.ownBlock = some w5.heap.size) →
          RowR w9 w.heap.size v2 (cn.recs (j + 1) seed) ∧ Below w.heap.size w w9 := fun v2 w9 h1 h2 h3 => by
        refine ⟨?_, (HROW.out.2.1.trans (hb5.mono HROW.out.2.1.size)).grown h2 (Nat.le_trans HROW.out.2.1.size hb5.size) (fun q hq => (hrlt q hq).1)⟩
        obtain ⟨r1, r2, r3, r4⟩ := HROW.out.2.2.2.2
        rw [HROW.out.2.2.1]
        exact RowR.append (r := r) hcells (by rw [HROW.out.2.2.2.1]; exact hxl) hkk hvv (by rw [r1]; unfold i64ok; omega) (by rw [r2]; unfold i64ok; omega) (by rw [HROW.out.2.2.2.1, r1, r2, r3, r4, ← hkb, ← hvb]; exact h1) h2 h3
      have HAPP := Lib.hid (And.intro happ (And.intro hown (And.intro hcell (And.intro hw5 (And.intro hs5 hs4))))); clear happ hown hcell hw5 hs5 hs4 hcells hxl hkey hkk hvv hok hov hb4 hb5 hrlt hkb hvb
      have hj1 : j ≤ 1000 := by omega
      go_wp2_with (at_builtin; rw [← HAPP.out.2.2.2.1]; refine wpList_append_own_at _ rfl (.tmp 12) (.tmp 19) 39 rfl w.heap.size 44 i0 _ 6 80 Try.underlying39 HI.out.1 HI.out.2.1 HI.out.2.2.1 HI.out.2.2.2 rfl (by decide) (.slice Ar j cr) j xs rfl HAPP.out.2.1 ⟨w4.heap.size, 0, none⟩ 1 1 [.int .i64 0, .int .i64 (j : Int), .bool kb, .slice Ak nk ck, .bool vb, .slice Av nv cv] rfl rfl (by rw [HAPP.out.2.2.2.1]; exact HAPP.out.2.2.1) (by simp [Value.oneCell']) (by unfold maxLen; omega) (by omega) (by have h1 := HAPP.out.2.2.2.2.1; have h2 := HAPP.out.2.2.2.2.2; have h3 := HROW.out.2.1.size; omega) ?_; intro v2 w9 h1 h2 _ h3)
      have HN := Lib.hid (HAPP.out.1 v2 w9 h1 h2 h3); clear h1 h2 h3
      go_wp2_with fail
      go_roundw
      case rel => exact ⟨j + 1, by omega, by go_num, HN.out.1, HN.out.2⟩
      case measure => simp [intOf]; omega
    · obtain rfl : j = n := by omega
      have HROW := Lib.hid (And.intro hrow hbw); clear hrow hbw
      go_wp2_with fail
      go_ret
      exact ⟨_, rfl, HROW.out.1, HROW.out.2⟩
end
section
open Go.RowKit Go.Maps
set_option maxRecDepth 100000

def cn.zero : Array Value := #[.int .i64 0, .int .i64 0, .string (ByteArray.mk #[]), .string (ByteArray.mk #[]), .int .i64 0, .int .i64 0, .int .i64 0, .int .i64 0, .string (ByteArray.mk #[]), .string (ByteArray.mk #[]), .int .i64 0, .slice none 0 0, .slice none 0 0]
def cn.req (corr : Int) (topic : ByteArray) (part : Int) (v : Value) : Array Value := #[.int .i64 4, .int .i64 corr, .string (ByteArray.mk #[]), .string topic, .int .i64 part, .int .i64 0, .int .i64 0, .int .i64 0, .string (ByteArray.mk #[]), .string (ByteArray.mk #[]), .int .i64 0, .slice none 0 0, v]
theorem cn.infoReq : (Try.prog.info? 35).map (·.size) = some 13 := by kernel_rfl

/-! Nothing. -/
set_option maxHeartbeats 1000000 in
theorem cn.seq_nil (topic : ByteArray) (part : Int) (w : World) : Calls Try.prog 17 #[.pointer none, .string topic, .int .i64 part] w fun e w' => e = .returned (.int .i64 0) ∧ w = w' := by
  go_enter Try.func17, Try.ntmps17
  go_wp2_with fail
  go_ret
  exact ⟨rfl, rfl⟩
theorem cn.offset_nil (w : World) : Calls Try.prog 22 #[.pointer none] w fun e w' => e = .returned (.int .i64 0) ∧ w = w' := by
  go_enter Try.func22, Try.ntmps22
  go_wp2_with fail
  go_ret
  exact ⟨rfl, rfl⟩
theorem cn.res_cell2 {P : Program} {fn : Func} {p u : Tmp} {ty T : TypeId} (h : fn.results = #[.cell p ty, .tmp u]) (tmps : Array Value) (w : World) (g : Nat) (cs : Array Value) (d : TypeDesc) (hp : tmps.getD p undef = .pointer (some ⟨g, 0, none⟩)) (hg : Blk w g T cs)
    (hu : P.underlying ty = some d) (hd : (match d with | .struct _ | .array _ _ => true | _ => false) = true) (hi : (P.info? ty).map (·.size) = some cs.size) :
    (results fn tmps).run P w = .ok (.tuple #[.agg cs, tmps.getD u undef]) w := by
  have hp' : tmps[p]?.getD undef = .pointer (some ⟨g, 0, none⟩) := by simpa using hp
  simp [results, h, hp', asAddr, run_loadVar_row w g T ty cs (0, 0) d hg hu hd hi]
set_option maxHeartbeats 1000000 in
theorem cn.done_nil (r : Array Value) (w : World) : Calls Try.prog 15 #[.pointer none, .agg r] w fun e w' => e = .returned (.tuple #[.int .i64 0, .int .i64 1]) ∧ Below w.heap.size w w' := by
  go_enter Try.func15, Try.ntmps15
  go_wp2_with fail
  go_ret2
  exact ⟨rfl, (Below.refl _ _).alloc (Nat.le_refl _) _⟩
set_option maxHeartbeats 1000000 in
theorem cn.got_nil (r : Array Value) (w : World) : Calls Try.prog 21 #[.pointer none, .agg r] w fun e w' => e = .returned (.tuple #[.slice none 0 0, .int .i64 1]) ∧ Below w.heap.size w w' := by
  go_enter Try.func21, Try.ntmps21
  go_wp2_with fail
  go_ret2
  exact ⟨rfl, (Below.refl _ _).alloc (Nat.le_refl _) _⟩
set_option maxHeartbeats 1000000 in
theorem cn.make_nil (topic : ByteArray) (part : Int) (v : Value) (w : World) : Calls Try.prog 13 #[.pointer none, .string topic, .int .i64 part, v] w fun e w' => e = .returned (.tuple #[.agg cn.zero, .int .i64 1]) ∧ Below w.heap.size w w' := by
  go_enter Try.func13, Try.ntmps13
  go_wp2_with fail
  refine bodyPost_ret (cn.res_cell2 rfl _ _ w.heap.size cn.zero _ rfl (Blk.new w 35 cn.zero) Try.underlying35 rfl cn.infoReq) rfl ?_
  exact ⟨rfl, (Below.refl _ _).alloc (Nat.le_refl _) _⟩
set_option maxHeartbeats 1000000 in
theorem cn.retry_nil (w : World) : Calls Try.prog 16 #[.pointer none] w fun e w' => e = .returned (.tuple #[.agg cn.zero, .bool false]) ∧ Below w.heap.size w w' := by
  go_enter Try.func16, Try.ntmps16
  go_wp2_with fail
  refine bodyPost_ret (cn.res_cell2 rfl _ _ w.heap.size cn.zero _ rfl (Blk.new w 35 cn.zero) Try.underlying35 rfl cn.infoReq) rfl ?_
  exact ⟨rfl, (Below.refl _ _).alloc (Nat.le_refl _) _⟩
set_option maxHeartbeats 1000000 in
theorem cn.ask_nil (most : Int) (w : World) : Calls Try.prog 19 #[.pointer none, .int .i64 most] w fun e w' => e = .returned (.agg cn.zero) ∧ Below w.heap.size w w' := by
  go_enter Try.func19, Try.ntmps19
  go_wp2_with fail
  refine bodyPost_ret (cn.res_cell1 rfl _ _ w.heap.size cn.zero _ rfl (Blk.new w 35 cn.zero) Try.underlying35 rfl cn.infoReq) rfl ?_
  exact ⟨rfl, (Below.refl _ _).alloc (Nat.le_refl _) _⟩

/-! A producer. -/
structure CSent where
  corr : Int
  topic : ByteArray
  part : Int
  data : List Nat
  count : Int
def cn.sent (s : CSent) (v : Value) : List Value := (cn.req s.corr s.topic s.part v).toList ++ [.int .i64 s.count]
/-- The batch under way, in its row. -/
def cn.Under (w : World) (F : Nat → Prop) (uv : Value) : Option CSent → Prop
  | none => w.ownsRow 0 83 14 uv 0 []
  | some s => ∃ dv, w.ownsRow 0 83 14 uv 1 (cn.sent s dv) ∧ w.ownsRow 0 5 1 dv s.data.length (u8s s.data) ∧ ∀ k, dv.ownBlock = some k → F k
/-- The producer at p: what it is, what is under way, what is done; F its blocks, n no fewer than its places. -/
def CnAt (w : World) (p : Nat) (id epoch corr : Int) (u : Option CSent) (D : SlotK → Int) (F : Nat → Prop) (n : Nat) : Prop :=
  ∃ uv mb N g, Blk w p 77 #[.int .i64 id, .int .i64 epoch, .int .i64 corr, uv, .map (some mb)] ∧ GM slotKey w mb N g ∧ (∀ x, (g x).getD (.int .i64 0) = .int .i64 (D x)) ∧ N ≤ n ∧
    cn.Under w F uv u ∧ (F p ∧ F mb ∧ ∀ k, uv.ownBlock = some k → F k) ∧ (∀ k, F k → k < w.heap.size)
def cn.fresh (w w' : World) (k : Nat) : Prop := w.heap.size ≤ k ∧ k < w'.heap.size
def cn.grow (F : Nat → Prop) (w w' : World) (k : Nat) : Prop := (F k ∨ w.heap.size ≤ k) ∧ k < w'.heap.size
theorem cn.Under.keep {w w' : World} {F P : Nat → Prop} {uv : Value} {u : Option CSent} (h : cn.Under w F uv u) (hu : ∀ k, uv.ownBlock = some k → F k) (hc : Chg w w' P) (hp : ∀ k, F k → ¬ P k) : cn.Under w' F uv u := by
  cases u with
  | none => exact hc.own h fun k hk => hp k (hu k hk)
  | some s =>
    obtain ⟨dv, h1, h2, h3⟩ := h
    exact ⟨dv, hc.own h1 fun k hk => hp k (hu k hk), hc.own h2 fun k hk => hp k (h3 k hk), h3⟩
theorem CnAt.keep {w w' : World} {p : Nat} {id epoch corr : Int} {u : Option CSent} {D : SlotK → Int} {F P : Nat → Prop} {n : Nat} (h : CnAt w p id epoch corr u D F n) (hc : Chg w w' P) (hp : ∀ k, F k → ¬ P k) : CnAt w' p id epoch corr u D F n := by
  obtain ⟨uv, mb, N, g, h1, h2, h3, h4, h5, ⟨f1, f2, f3⟩, h7⟩ := h
  exact ⟨uv, mb, N, g, hc.blk h1 (hp _ f1), h2.chg hc (hp _ f2), h3, h4, h5.keep f3 hc hp, ⟨f1, f2, f3⟩, fun k hk => Nat.lt_of_lt_of_le (h7 k hk) hc.size⟩
theorem CnAt.below {w w' : World} {p : Nat} {id epoch corr : Int} {u : Option CSent} {D : SlotK → Int} {F : Nat → Prop} {n : Nat} (h : CnAt w p id epoch corr u D F n) (hb : Below w.heap.size w w') : CnAt w' p id epoch corr u D F n := h.keep (chg_of (P := fun _ => False) hb) fun _ _ q => q

set_option maxHeartbeats 1000000 in
theorem cn.new_ok (id epoch : Int) (w : World) (h1 : 1 ≤ id ∧ id ≤ 1099511627776) (h2 : 0 ≤ epoch ∧ epoch ≤ 32767) :
    Calls Try.prog 10 #[.int .i64 id, .int .i64 epoch] w fun e w' => ∃ p, e = .returned (.tuple #[.pointer (some ⟨p, 0, none⟩), .int .i64 0]) ∧ CnAt w' p id epoch 0 none (fun _ => 0) (cn.fresh w w') 0 ∧ Below w.heap.size w w' := by
  have g1 : decide (id < 1) = false := decide_eq_false (by omega)
  have g2 : decide (1099511627776 < id) = false := decide_eq_false (by omega)
  have g3 : decide (epoch < 0) = false := decide_eq_false (by omega)
  have g4 : decide (32767 < epoch) = false := decide_eq_false (by omega)
  have hmm := @run_makeMap Try.prog
  go_enter Try.func10, Try.ntmps10
  go_wp2_with fail
  obtain ⟨w1, hw1⟩ : ∃ w1, w1 = w.alloc (.map #[] 0) := ⟨_, rfl⟩
  rw [← hw1]
  obtain ⟨w2, hw2⟩ : ∃ w2, w2 = w1.alloc (.cells #[.int .i64 id, .int .i64 epoch, .int .i64 0, .slice none 0 0, .map (some w.heap.size)] 77) := ⟨_, rfl⟩
  rw [← hw2]
  have s1 : w1.heap.size = w.heap.size + 1 := by rw [hw1]; simp
  have s2 : w2.heap.size = w.heap.size + 2 := by rw [hw2]; simp [s1]
  have hb1 : Below w.heap.size w w1 := by rw [hw1]; exact (Below.refl _ _).alloc (Nat.le_refl _) _
  have hc2 : Chg w1 w2 (fun _ => False) := by rw [hw2]; exact Chg.alloc _ _ _
  have hg : GM slotKey w2 w.heap.size 0 (fun _ => none) := GM.chg (by rw [hw1]; exact GM.made slotKey w) hc2 fun q => q
  have hk : Blk w2 w1.heap.size 77 #[.int .i64 id, .int .i64 epoch, .int .i64 0, .slice none 0 0, .map (some w.heap.size)] := by rw [hw2]; exact Blk.new _ _ _
  have hb2 : Below w.heap.size w w2 := by rw [hw2]; exact hb1.alloc hb1.size _
  clear hw1 hw2
  go_ret2
  rw [s1] at hk
  exact ⟨w.heap.size + 1, rfl, ⟨.slice none 0 0, w.heap.size, 0, _, hk, hg, fun _ => rfl, Nat.le_refl _, World.ownsRow_nil _ _ _ _, ⟨⟨by omega, by omega⟩, ⟨Nat.le_refl _, by omega⟩, fun k hk => by cases hk⟩, fun k hk => hk.2⟩, hb2⟩
set_option maxHeartbeats 1000000 in
theorem cn.new_bad (id epoch : Int) (w : World) (h : ¬ ((1 ≤ id ∧ id ≤ 1099511627776) ∧ (0 ≤ epoch ∧ epoch ≤ 32767))) :
    Calls Try.prog 10 #[.int .i64 id, .int .i64 epoch] w fun e w' => e = .returned (.tuple #[.pointer none, .int .i64 1]) ∧ w = w' := by
  go_enter Try.func10, Try.ntmps10
  by_cases g1 : id < 1
  · go_wp2_with fail
    go_ret2
    exact ⟨rfl, rfl⟩
  by_cases g2 : 1099511627776 < id
  · go_wp2_with fail
    go_ret2
    exact ⟨rfl, rfl⟩
  by_cases g3 : epoch < 0
  · go_wp2_with fail
    go_ret2
    exact ⟨rfl, rfl⟩
  have g4 : 32767 < epoch := by omega
  go_wp2_with fail
  go_ret2
  exact ⟨rfl, rfl⟩
theorem CnAt.lt {w : World} {p : Nat} {id epoch corr : Int} {u : Option CSent} {D : SlotK → Int} {F : Nat → Prop} {n : Nat} (h : CnAt w p id epoch corr u D F n) : F p ∧ ∀ k, F k → k < w.heap.size := by
  obtain ⟨uv, mb, N, g, -, -, -, -, -, ⟨f1, -⟩, h7⟩ := h
  exact ⟨f1, h7⟩
theorem cn.zero_int (w : World) : (zeroValue 3).run Try.prog w = .ok (.int .i64 0) w := by kernel_rfl
set_option maxHeartbeats 1000000 in
theorem cn.seq_any (x : SlotK) (p : Nat) (id epoch corr : Int) (u : Option CSent) (D : SlotK → Int) (F : Nat → Prop) (n : Nat) (w : World) (h : CnAt w p id epoch corr u D F n) :
    Calls Try.prog 17 #[.pointer (some ⟨p, 0, none⟩), .string x.s, .int .i64 x.p] w fun e w' => e = .returned (.int .i64 (D x)) ∧ w = w' := by
  obtain ⟨uv, mb, N, g, h1, h2, h3, -⟩ := h
  have c4 := h1.cell 4 rfl
  have hl := h1.lt
  have hk : (Instr.lookup 74 (.map (some mb)) (.agg #[.string x.s, .int .i64 x.p]) false).run Try.prog w = .ok (.int .i64 (D x)) w := by
    have := h2.look1 Try.underlying74 (cn.zero_int w) x trivial
    rw [h3] at this
    exact this
  go_enter Try.func17, Try.ntmps17
  go_wp2_with fail
  go_ret
  exact ⟨rfl, rfl⟩

/-! A reader. -/
def RdrAt (w : World) (p : Nat) (topic : ByteArray) (part offset corr : Int) : Prop := Blk w p 93 #[.string topic, .int .i64 part, .int .i64 offset, .int .i64 corr]
set_option maxHeartbeats 1000000 in
theorem cn.reader_ok (topic : ByteArray) (part offset : Int) (w : World) (h : 0 ≤ offset ∧ offset ≤ 4611686018427387904) :
    Calls Try.prog 18 #[.string topic, .int .i64 part, .int .i64 offset] w fun e w' => e = .returned (.tuple #[.pointer (some ⟨w.heap.size, 0, none⟩), .int .i64 0]) ∧ RdrAt w' w.heap.size topic part offset 0 ∧ Below w.heap.size w w' := by
  have g1 : decide (offset < 0) = false := decide_eq_false (by omega)
  have g2 : decide (4611686018427387904 < offset) = false := decide_eq_false (by omega)
  go_enter Try.func18, Try.ntmps18
  go_wp2_with fail
  go_ret2
  exact ⟨rfl, Blk.new _ _ _, (Below.refl _ _).alloc (Nat.le_refl _) _⟩
set_option maxHeartbeats 1000000 in
theorem cn.reader_bad (topic : ByteArray) (part offset : Int) (w : World) (h : ¬ (0 ≤ offset ∧ offset ≤ 4611686018427387904)) :
    Calls Try.prog 18 #[.string topic, .int .i64 part, .int .i64 offset] w fun e w' => e = .returned (.tuple #[.pointer none, .int .i64 1]) ∧ w = w' := by
  go_enter Try.func18, Try.ntmps18
  by_cases g1 : offset < 0
  · go_wp2_with fail
    go_ret2
    exact ⟨rfl, rfl⟩
  have g2 : 4611686018427387904 < offset := by omega
  go_wp2_with fail
  go_ret2
  exact ⟨rfl, rfl⟩
theorem cn.offset_any (p : Nat) (topic : ByteArray) (part offset corr : Int) (w : World) (h : RdrAt w p topic part offset corr) : Calls Try.prog 22 #[.pointer (some ⟨p, 0, none⟩)] w fun e w' => e = .returned (.int .i64 offset) ∧ w = w' := by
  have c2 := h.cell 2 rfl
  have hl := h.lt
  go_enter Try.func22, Try.ntmps22
  go_wp2_with fail
  go_ret
  exact ⟨rfl, rfl⟩
end
section
open Go.RowKit Go.Maps
set_option maxRecDepth 100000

def cn.fetch (corr : Int) (topic : ByteArray) (part offset most : Int) : Array Value := #[.int .i64 5, .int .i64 corr, .string (ByteArray.mk #[]), .string topic, .int .i64 part, .int .i64 offset, .int .i64 0, .int .i64 most, .string (ByteArray.mk #[]), .string (ByteArray.mk #[]), .int .i64 0, .slice none 0 0, .slice none 0 0]
set_option maxHeartbeats 4000000 in
theorem cn.ask_any (p : Nat) (topic : ByteArray) (part offset corr most : Int) (w : World) (h : RdrAt w p topic part offset corr) (hc : 0 ≤ corr ∧ corr ≤ 1000000000) :
    Calls Try.prog 19 #[.pointer (some ⟨p, 0, none⟩), .int .i64 most] w fun e w' => e = .returned (.agg (cn.fetch (corr + 1) topic part offset most)) ∧ RdrAt w' p topic part offset (corr + 1) ∧ Chg w w' (fun k => k = p) := by
  obtain ⟨g, hg⟩ : ∃ g, g = w.heap.size := ⟨_, rfl⟩
  obtain ⟨w1, hw1⟩ : ∃ w1, w1 = w.alloc (.cells cn.zero 35) := ⟨_, rfl⟩
  have hpl := h.lt
  have hk1 : Blk w1 p 93 #[.string topic, .int .i64 part, .int .i64 offset, .int .i64 corr] := by rw [hw1]; exact (Chg.alloc _ _ (fun _ => False)).blk h fun q => q
  have hz1 : Blk w1 g 35 cn.zero := by rw [hw1, hg]; exact Blk.new _ _ _
  have hc1 : Chg w w1 (fun _ => False) := by rw [hw1]; exact Chg.alloc _ _ _
  have c3 := hk1.cell 3 rfl
  have f3 := hk1.frozen 3
  have l3 := hk1.lt
  unfold cn.zero at hw1
  have H1 := Lib.hid (And.intro hk1 (And.intro hz1 (And.intro hc1 (And.intro hw1 hg)))); clear hk1 hz1 hc1 hg
  clear hw1
  go_enter Try.func19, Try.ntmps19
  go_upto_region 3 with fail
  rw [← H1.out.2.2.2.1, ← H1.out.2.2.2.2]
  go_upto_region 4 with fail
  clear c3 f3 l3
  obtain ⟨w2, hw2⟩ : ∃ w2, w2 = w1.setCell ⟨p, 3, none⟩ (.int .i64 (corr + 1)) := ⟨_, rfl⟩
  rw [← hw2]
  have hgp : ¬ p = g := by have := H1.out.2.2.2.2; omega
  have hk2 : Blk w2 p 93 #[.string topic, .int .i64 part, .int .i64 offset, .int .i64 (corr + 1)] := by rw [hw2]; exact H1.out.1.set 3 _
  have hc12 : Chg w1 w2 (fun k => k = p) := by rw [hw2]; exact Chg.setCell _ _ _ _
  have hz2 : Blk w2 g 35 cn.zero := hc12.blk H1.out.2.1 fun e => hgp e.symm
  have p0 : ∀ x : Later w2 (fun k => k = g), x.1.cell? ⟨p, 0, none⟩ = some (.string topic) := fun x => (x.2.blk hk2 hgp).cell 0 rfl
  have p1 : ∀ x : Later w2 (fun k => k = g), x.1.cell? ⟨p, 1, none⟩ = some (.int .i64 part) := fun x => (x.2.blk hk2 hgp).cell 1 rfl
  have p2 : ∀ x : Later w2 (fun k => k = g), x.1.cell? ⟨p, 2, none⟩ = some (.int .i64 offset) := fun x => (x.2.blk hk2 hgp).cell 2 rfl
  have p3 : ∀ x : Later w2 (fun k => k = g), x.1.cell? ⟨p, 3, none⟩ = some (.int .i64 (corr + 1)) := fun x => (x.2.blk hk2 hgp).cell 3 rfl
  have v2 : w2.drew.cell? ⟨p, 2, none⟩ = some (.int .i64 offset) := p2 ⟨w2.drew, (Chg.refl _ _).drew⟩
  have H2 := Lib.hid (And.intro hk2 (And.intro hc12 (And.intro hz2 hw2))); clear hk2 hc12 hz2 hw2
  have hS0 : later w2 (fun k => k = g) w2.drew := later_of ((Chg.refl _ _).drew)
  refine wp_plan (S := fun w0 => ∃ x : Later w2 (fun k => k = g), w0 = x.1) (by kernel_rfl) hS0 ?_
  intro hS' K5 hK5
  have HS := Lib.hid hS'; clear hS' hS0
  refine plan_group [true, true, true, true, true, true, true, true, true, true, true, true, true, true, true, false, true] [0, 1, 2, 3, 4, 5, 6, 7, 8, 9, 10, 11, 12, 13, 14, 16] 3 (by dsimp only [sel]) (by rfl) rfl (by kernel_rfl) (by kernel_rfl) HS.out ?_
  (repeat go_big_quiet_step (fail)); refine wpQuiet_nil ?_
  refine plan_one [false, false, false, false, false, false, false, false, false, false, false, false, false, false, false, true] 15 2 (by dsimp only [sel]) (by rfl) rfl (by kernel_rfl) ?_; intro K1 hK1; go_wp2_with fail
  refine ⟨by first | exact HS.out | exact fun _ => HS.out, ?_⟩
  refine plan_group [false, false, false, false, false, false, false, false, false, false, false, false, false, false, false, false, false, true] [17] 1 (by dsimp only [sel]) (by rfl) rfl (by kernel_rfl) (by kernel_rfl) HS.out ?_
  (repeat go_big_quiet_step (fail)); refine wpQuiet_nil ?_
  refine plan_one [false, false, false, false, false, false, false, false, false, false, false, false, false, false, false, false, false, false, true] 18 0 (by dsimp only [sel]) (by rfl) rfl (by kernel_rfl) ?_; intro K1 hK1
  have hz2' : Blk w2.drew g 35 cn.zero := H2.out.2.2.1
  go_wp2_with (refine wpList_store_row rfl 35 (.tmp 4) (.tmp 32) rfl g (cn.fetch (corr + 1) topic part offset most) rfl rfl 35 _ hz2' cn.infoReq rfl (by simp [cn.fetch, Value.oneCell']) ?_)
  obtain ⟨w3, hw3⟩ : ∃ w3, w3 = w2.drew.setRow g (cn.fetch (corr + 1) topic part offset most) := ⟨_, rfl⟩
  rw [← hw3]
  have hc3 : Chg w2 w3 (fun k => k = g) := by rw [hw3]; exact ((Chg.refl w2 (fun k => k = g)).drew).trans (cn.chg_row _ _ _) fun _ _ q => q
  have hz3 : Blk w3 g 35 (cn.fetch (corr + 1) topic part offset most) := by rw [hw3]; exact cn.blk_row hz2' _
  have hl3 : later w2 (fun k => k = g) w3 := later_of hc3
  refine ⟨by first | exact hl3 | exact fun _ => hl3, ?_⟩
  refine wp_plan_end (by kernel_rfl) ?_
  clear hw3 p0 p1 p2 p3 v2 hl3
  go_wp2_with fail
  refine bodyPost_ret (cn.res_cell1 rfl _ _ _ _ _ rfl hz3 Try.underlying35 rfl cn.infoReq) rfl ?_
  have hc13 : Chg w w2 (fun k => k = p) := (H1.out.2.2.1.mono fun _ _ q => q.elim).trans H2.out.2.1 fun _ _ q => q
  exact ⟨rfl, hc3.blk H2.out.1 hgp, hc13.trans hc3 fun k hk q => absurd hk (by rw [show k = g from q, H1.out.2.2.2.2]; exact Nat.lt_irrefl _)⟩
end
section
open Go.RowKit Go.Maps
set_option maxRecDepth 100000

theorem cn.one {w : World} {rs : List Rec} {V : Nat → Value} (h : ∀ (i : Nat) (r : Rec), rs[i]? = some r → RecR w (cellsAt V i 6) r) (j : Nat) (hj : j < rs.length * 6) : (V j).oneCell' = true := by
  have hi : j / 6 < rs.length := by omega
  obtain ⟨kv, vv, e, ⟨A1, c1, rfl, -⟩, ⟨A2, c2, rfl, -⟩, -⟩ := h (j / 6) _ (List.getElem?_eq_getElem hi)
  have hq : ∃ q, q < 6 ∧ j = j / 6 * 6 + q := ⟨j % 6, by omega, by omega⟩
  obtain ⟨q, hq, hjq⟩ := hq
  rw [hjq]
  match q, hq with
  | 0, _ => rw [cellsAt_cell e 0 (by omega) rfl]; rfl
  | 1, _ => rw [cellsAt_cell e 1 (by omega) rfl]; rfl
  | 2, _ => rw [cellsAt_cell e 2 (by omega) rfl]; rfl
  | 3, _ => rw [cellsAt_cell e 3 (by omega) rfl]; rfl
  | 4, _ => rw [cellsAt_cell e 4 (by omega) rfl]; rfl
  | 5, _ => rw [cellsAt_cell e 5 (by omega) rfl]; rfl
set_option maxHeartbeats 1000000 in
theorem cn.clone_cells (A : Option Addr) (c m : Nat) (V : Nat → Value) (w : World) (hat : At w A (m * 6) V) (hone : ∀ j, j < m * 6 → (V j).oneCell' = true) (hl : m ≤ 1000) :
    Calls Try.prog 47 #[.slice A m c] w fun e w' => ∃ v, e = .returned v ∧ w'.ownsRow w.heap.size 44 6 v m (cellsOf (m * 6) V) ∧ Below w.heap.size w w' := by
  obtain ⟨i0, hi, hz0, hz1, hz2⟩ := info_parts cn.infoRec
  have H4 := Lib.hid hone; clear hone
  cases A with
  | none =>
    have hm0 : m = 0 := by
      rcases Nat.eq_zero_or_pos m with h | h
      · exact h
      · obtain ⟨b, off, h1, _⟩ := hat (by omega); cases h1
    subst hm0
    go_enter Try.func47, Try.ntmps47
    have hn := Lib.run_eql_slice_nil (P := Try.prog) w 39 44 none 0 c 0 0 Try.underlying39
    go_wp2_with fail
    go_ret
    exact ⟨_, rfl, World.ownsRow_nil _ _ _ _, Below.refl _ _⟩
  | some a =>
    go_enter Try.func47, Try.ntmps47
    have hn := Lib.run_eql_slice_nil (P := Try.prog) w 39 44 (some a) m c 0 0 Try.underlying39
    have h0 : (w.alloc (.cells #[] 44)).ownsRow w.heap.size 44 6 (.slice (some ⟨w.heap.size, 0, none⟩) 0 0) 0 [] := World.ownsRow_made w #[] 0 (Nat.le_refl _) (by unfold maxLen; omega) (by simp)
    have H0 := Lib.hid h0; clear h0
    have HAT := Lib.hid hat; clear hat
    go_wp2_with (at_builtin; refine wpList_app _ rfl (.tmp 5) (.tmp 6) 39 rfl w.heap.size 44 i0 _ 6 80 Try.underlying39 hi hz0 hz1 hz2 rfl (by decide) _ 0 [] rfl H0.out (some a) m c V rfl (HAT.out.alloc _) (fun j hj => H4.out j hj) (by unfold maxLen; omega) (by omega) (by simp) ?_; intro v' w2 hown2 hg2)
    have hb2 : Below w.heap.size w w2 := ((Below.refl _ w).alloc (Nat.le_refl _) _).grown hg2 (by simp) (fun g hg => by cases hg; exact Nat.le_refl _)
    rw [List.nil_append, Nat.zero_add] at hown2
    have HB2 := Lib.hid hb2; clear hb2
    have HOWN2 := Lib.hid hown2; clear hown2
    clear hg2
    go_wp2_with fail
    go_ret
    exact ⟨_, rfl, HOWN2.out, HB2.out⟩
theorem cn.cellP {a b : World} {P : Nat → Prop} (h : Chg a b P) {p : Addr} {v : Value} (hc : a.cell? p = some v) (hl : p.block < a.heap.size) (hp : ¬ P p.block) : b.cell? p = some v := by
  have hb := h.block p.block hl hp
  unfold World.cell? at hc ⊢
  rw [hb]
  exact hc
theorem cn.infoBat : (Try.prog.info? 42).map (·.size) = some 6 := by kernel_rfl
/-- The records, by their places. -/
def cn.numbered (rs : List Rec) : List Rec := rs.mapIdx fun (i : Nat) (r : Rec) => ({ r with off := (i : Int) } : Rec)
theorem cn.numbered_len (rs : List Rec) : (cn.numbered rs).length = rs.length := by unfold cn.numbered; simp
def cn.bat (id epoch seq : Int) (rs : List Rec) : Bat := ⟨0, max ((rs.length : Int) - 1) 0, id, epoch, seq, cn.numbered rs⟩
/-- The first j cells of offsets are set. -/
def cn.num (V : Nat → Value) (j q : Nat) : Value := if q % 6 = 0 ∧ q / 6 < j then .int .i64 ((q / 6 : Nat) : Int) else V q
theorem cn.num_zero (V : Nat → Value) (m : Nat) : cellsOf m (cn.num V 0) = cellsOf m V := by
  unfold cellsOf
  refine List.map_congr_left fun q _ => ?_
  unfold cn.num
  rw [if_neg (by omega)]
theorem cn.num_succ (V : Nat → Value) (m j : Nat) : (cellsOf m (cn.num V j)).set (j * 6) (.int .i64 (j : Int)) = cellsOf m (cn.num V (j + 1)) := by
  unfold cellsOf
  apply List.ext_getElem?
  intro q
  by_cases hq : q < m
  · rw [List.getElem?_set]
    by_cases e : j * 6 = q
    · subst e
      rw [if_pos rfl, if_pos (by simpa using hq), List.getElem?_map, List.getElem?_range hq]
      simp only [Option.map_some, cn.num]
      rw [if_pos (by omega), show j * 6 / 6 = j by omega]
    · rw [if_neg e, List.getElem?_map, List.getElem?_map, List.getElem?_range hq]
      simp only [Option.map_some, cn.num]
      by_cases h1 : q % 6 = 0 ∧ q / 6 < j
      · rw [if_pos h1, if_pos (by omega)]
      · rw [if_neg h1, if_neg (by omega)]
  · rw [List.getElem?_eq_none (by simp; omega), List.getElem?_eq_none (by simp; omega)]
theorem cn.num_row {w : World} {V : Nat → Value} {rs : List Rec} (hlen : rs.length ≤ 1000) (h : ∀ (i : Nat) (r : Rec), rs[i]? = some r → RecR w (cellsAt V i 6) r) (i : Nat) (r : Rec) (hr : (cn.numbered rs)[i]? = some r) : RecR w (cellsAt (cn.num V rs.length) i 6) r := by
  unfold cn.numbered at hr
  rw [List.getElem?_mapIdx] at hr
  cases hx : rs[i]? with
  | none => rw [hx] at hr; cases hr
  | some x =>
    rw [hx] at hr
    obtain rfl : ({ x with off := (i : Int) } : Rec) = r := by simpa using hr
    have hi := (List.getElem?_eq_some_iff.1 hx).1
    obtain ⟨kv, vv, e, h1, h2, -, h3⟩ := h i x hx
    refine ⟨kv, vv, ?_, h1, h2, ⟨by have : (0 : Int) ≤ i := Int.natCast_nonneg _; dsimp only; omega, by dsimp only; omega⟩, h3⟩
    refine six_cells (by simp [cellsAt]) ?_ ?_ ?_ ?_ ?_ ?_
    · rw [cellsAt_get _ _ _ _ (by omega)]; unfold cn.num; rw [if_pos (by omega), show (i * 6 + 0) / 6 = i by omega]
    · rw [cellsAt_get _ _ _ _ (by omega)]; unfold cn.num; rw [if_neg (by omega), cellsAt_cell e 1 (by omega) rfl]
    · rw [cellsAt_get _ _ _ _ (by omega)]; unfold cn.num; rw [if_neg (by omega), cellsAt_cell e 2 (by omega) rfl]
    · rw [cellsAt_get _ _ _ _ (by omega)]; unfold cn.num; rw [if_neg (by omega), cellsAt_cell e 3 (by omega) rfl]
    · rw [cellsAt_get _ _ _ _ (by omega)]; unfold cn.num; rw [if_neg (by omega), cellsAt_cell e 4 (by omega) rfl]
    · rw [cellsAt_get _ _ _ _ (by omega)]; unfold cn.num; rw [if_neg (by omega), cellsAt_cell e 5 (by omega) rfl]
theorem cn.own_set {w : World} {base : Nat} {e : TypeId} {size g n c : Nat} {xs : List Value} (h : w.ownsRow base e size (.slice (some ⟨g, 0, none⟩) n c) n xs) (j : Nat) (v : Value) :
    (w.setCell ⟨g, j, none⟩ v).ownsRow base e size (.slice (some ⟨g, 0, none⟩) n c) n (xs.set j v) := by
  refine ⟨by rw [List.length_set]; exact h.1, ?_⟩
  rcases h.2 with ⟨h1, -⟩ | ⟨g', cap, cur, h1, h3, h4, h5, h6, h7, h8⟩
  · cases h1
  · obtain ⟨rfl, rfl⟩ : g = g' ∧ c = cap := by simpa using h1
    exact .inr ⟨g, c, cur.setIfInBounds j v, rfl, h3, Blk.set (T := e) h4 j v, h5, h6, by simpa using h7, by rw [Array.toList_setIfInBounds, List.take_set, h8]⟩

set_option maxHeartbeats 8000000 in
theorem cn.batch_any (p : Nat) (id epoch corr : Int) (u : Option CSent) (D : SlotK → Int) (F : Nat → Prop) (n0 : Nat) (A : Option Addr) (c : Nat) (rs : List Rec) (seq : Int) (w : World) (h : CnAt w p id epoch corr u D F n0) (hv : RecsV w (.slice A rs.length c) rs) (hl : rs.length ≤ 1000) :
    Calls Try.prog 27 #[.pointer (some ⟨p, 0, none⟩), .slice A rs.length c, .int .i64 seq] w fun e w' => ∃ A2 c2, e = .returned ((cn.bat id epoch seq rs).hval A2 rs.length c2) ∧ RecsV w' (.slice A2 rs.length c2) (cn.numbered rs) ∧ Below w.heap.size w w' := by
  obtain ⟨uv, mb, N, gm, hblk, -⟩ := h
  obtain ⟨w1, hw1⟩ : ∃ w1, w1 = w.alloc (.cells #[.int .i64 0, .int .i64 0, .int .i64 0, .int .i64 0, .int .i64 0, .slice none 0 0] 42) := ⟨_, rfl⟩
  obtain ⟨g0, hg0⟩ : ∃ g0, g0 = w.heap.size := ⟨_, rfl⟩
  have hz1 : Blk w1 g0 42 #[.int .i64 0, .int .i64 0, .int .i64 0, .int .i64 0, .int .i64 0, .slice none 0 0] := by rw [hw1, hg0]; exact Blk.new _ _ _
  have hb1 : Below g0 w w1 := by rw [hw1, hg0]; exact (Below.refl _ _).alloc (Nat.le_refl _) _
  have hk1 := (chg_of (P := fun _ => False) (hg0 ▸ hb1)).blk hblk fun q => q
  obtain ⟨A', c', V, e, -, -, hat, hrec⟩ := hv
  obtain ⟨rfl, rfl⟩ : A = A' ∧ c = c' := by simp at e; exact e
  clear e
  have hone := cn.one hrec
  have hcl : ∀ wx, Below g0 w wx → Calls Try.prog 47 #[.slice A rs.length c] wx fun e w' => ∃ A2 c2, e = .returned (.slice A2 rs.length c2) ∧ w'.ownsRow wx.heap.size 44 6 (.slice A2 rs.length c2) rs.length (cellsOf (rs.length * 6) V) ∧ Below wx.heap.size wx w' := fun wx hb => by
    refine (cn.clone_cells A c rs.length V wx (hat.below hb (by rw [hg0]; exact Nat.le_refl _)) hone hl).mono ?_
    rintro e w' ⟨v, rfl, h1, h3⟩
    obtain ⟨A2, c2, rfl, -⟩ := own_at h1
    exact ⟨A2, c2, rfl, h1, h3⟩
  obtain ⟨n, hn⟩ : ∃ n, n = rs.length := ⟨_, rfl⟩
  have HRS := Lib.hid (And.intro hcl (And.intro hz1 (And.intro hb1 (And.intro hk1 (And.intro hw1 (And.intro hg0 (And.intro hn hrec))))))); clear hcl hz1 hb1 hblk hrec hat hone
  rw [← hn] at hl HRS ⊢
  have HNN := Lib.hid hn
  have p0' := hk1.cell 0 rfl
  have p1' := hk1.cell 1 rfl
  have hpl := hk1.lt
  clear hk1 hw1 hg0 hn
  go_enter Try.func27, Try.ntmps27
  go_upto_region 1 with fail
  rw [← HRS.out.2.2.2.2.1, ← HRS.out.2.2.2.2.2.1]
  obtain ⟨L, hL⟩ : ∃ L : Int, L = if (n : Int) - 1 < 0 then (0 : Int) else (n : Int) - 1 := ⟨_, rfl⟩
  have HLL := Lib.hid hL; clear hL
  go_cut [7] from 9 to 24 (fun s7 wx => ∃ (gb : Nat) (A2 : Option Addr) (c2 : Nat), s7 = .pointer (some ⟨gb, 0, none⟩) ∧ g0 + 1 ≤ gb ∧ Blk wx gb 42 #[.int .i64 0, .int .i64 L, .int .i64 id, .int .i64 epoch, .int .i64 seq, .slice A2 n c2] ∧ wx.ownsRow (g0 + 1) 44 6 (.slice A2 n c2) n (cellsOf (n * 6) V) ∧ Below g0 w wx ∧ Blk wx g0 42 #[.int .i64 0, .int .i64 0, .int .i64 0, .int .i64 0, .int .i64 0, .slice none 0 0])
  case first =>
    have p0 : ∀ x : Later w1 (fun _ => False), x.1.cell? ⟨p, 0, none⟩ = some (.int .i64 id) := fun x => cn.cellP x.2 p0' hpl fun q => q
    have p1 : ∀ x : Later w1 (fun _ => False), x.1.cell? ⟨p, 1, none⟩ = some (.int .i64 epoch) := fun x => cn.cellP x.2 p1' hpl fun q => q
    have hS0 : later w1 (fun _ => False) w1.drew := later_of ((Chg.refl _ _).drew)
    refine wp_plan (S := fun w0 => ∃ x : Later w1 (fun _ => False), w0 = x.1) (by kernel_rfl) hS0 ?_
    intro hS' K5 hK5
    have HS := Lib.hid hS'; clear hS' hS0
    refine plan_group [true, true, true, true, true, true, true, true, true, true, true, true, true, true] [0, 1, 2, 3, 4, 5, 6, 7, 8, 9, 10, 11, 12, 13] 4 (by dsimp only [sel]) (by rfl) rfl (by kernel_rfl) (by kernel_rfl) HS.out ?_
    (repeat go_big_quiet_step (fail)); refine wpQuiet_nil ?_
    rw [← HLL.out]
    have hbd : Below g0 w w1.drew := HRS.out.2.2.1.trans (bdrew (Below.refl g0 w1) 1)
    have hfin : ∀ (w5 : World) (gb : Nat) (A2 : Option Addr) (c2 : Nat), Blk w5 gb 42 #[.int .i64 0, .int .i64 0, .int .i64 0, .int .i64 0, .int .i64 0, .slice none 0 0] → g0 + 1 ≤ gb → w5.ownsRow (g0 + 1) 44 6 (.slice A2 n c2) n (cellsOf (n * 6) V) → Below g0 w w5 → Blk w5 g0 42 #[.int .i64 0, .int .i64 0, .int .i64 0, .int .i64 0, .int .i64 0, .slice none 0 0] →
        Blk (w5.setRow gb #[.int .i64 0, .int .i64 L, .int .i64 id, .int .i64 epoch, .int .i64 seq, .slice A2 n c2]) gb 42 #[.int .i64 0, .int .i64 L, .int .i64 id, .int .i64 epoch, .int .i64 seq, .slice A2 n c2] ∧ (w5.setRow gb #[.int .i64 0, .int .i64 L, .int .i64 id, .int .i64 epoch, .int .i64 seq, .slice A2 n c2]).ownsRow (g0 + 1) 44 6 (.slice A2 n c2) n (cellsOf (n * 6) V) ∧ Below g0 w (w5.setRow gb #[.int .i64 0, .int .i64 L, .int .i64 id, .int .i64 epoch, .int .i64 seq, .slice A2 n c2]) ∧ Blk (w5.setRow gb #[.int .i64 0, .int .i64 L, .int .i64 id, .int .i64 epoch, .int .i64 seq, .slice A2 n c2]) g0 42 #[.int .i64 0, .int .i64 0, .int .i64 0, .int .i64 0, .int .i64 0, .slice none 0 0] := fun w5 gb A2 c2 h1 h2 h3 h4 h5 => by
      have hc := cn.chg_row w5 gb #[.int .i64 0, .int .i64 L, .int .i64 id, .int .i64 epoch, .int .i64 seq, .slice A2 n c2]
      have hsz := h4.size
      have hg0 := HRS.out.2.2.2.2.2.1
      exact ⟨cn.blk_row h1 _, hc.own h3 fun k hk e => by subst e; exact h1.not_row (by decide) h3 hk, h4.trans (hc.below (by rw [hg0]; exact hsz) fun k hk => by have hk : k = gb := hk; omega), hc.blk h5 fun e => by omega⟩
    have HFIN := Lib.hid hfin; clear hfin
    have hs1 : w1.heap.size = g0 + 1 := by rw [HRS.out.2.2.2.2.1, HRS.out.2.2.2.2.2.1]; exact World.size_alloc _ _
    have HS1 := Lib.hid hs1; clear hs1
    refine plan_two [false, false, false, false, false, false, false, false, false, false, false, false, false, false, true] [false, false, false, false, false, false, false, false, false, false, false, false, false, false, false, false, true] 14 16 3 (by dsimp only [sel]) (by dsimp only [sel]) (by rfl) (by rfl) rfl (by kernel_rfl) ?_ ?_
    · intro K1 hK1
      go_wp2_with (go_at_call 47; refine (HRS.out.1 _ hbd).mono ?_; rintro e w4 ⟨A2, c2, rfl, h1, h2⟩; have H4 := Lib.hid (And.intro h1 h2); clear h1 h2)
      have hc4 : Chg w1 w4 (fun _ => False) := ((Chg.refl w1 (fun _ => False)).drew).trans (chg_of H4.out.2) fun _ _ q => q
      have hb4 : Below g0 w w4 := hbd.trans (H4.out.2.mono (by have h1 := hbd.size; have h2 := HRS.out.2.2.2.2.2.1; omega))
      obtain ⟨w5, hw5⟩ : ∃ w5, w5 = w4.alloc (.cells #[.int .i64 0, .int .i64 0, .int .i64 0, .int .i64 0, .int .i64 0, .slice none 0 0] 42) := ⟨_, rfl⟩
      have hz5 : Blk w5 w4.heap.size 42 #[.int .i64 0, .int .i64 0, .int .i64 0, .int .i64 0, .int .i64 0, .slice none 0 0] := by rw [hw5]; exact Blk.new _ _ _
      have hs4 : g0 + 1 ≤ w4.heap.size := by have h1 := hc4.size; have h2 := HS1.out; omega
      have hr5 : w5.ownsRow (g0 + 1) 44 6 (.slice A2 n c2) n (cellsOf (n * 6) V) := by
        have h1 := H4.out.1
        rw [show w1.drew.heap.size = g0 + 1 from HS1.out] at h1
        rw [hw5]
        exact h1.alloc _
      have hb5 : Below g0 w w5 := by rw [hw5]; exact hb4.alloc (by have h1 := hb4.size; have h2 := HRS.out.2.2.2.2.2.1; omega) _
      have hz0 : Blk w5 g0 42 #[.int .i64 0, .int .i64 0, .int .i64 0, .int .i64 0, .int .i64 0, .slice none 0 0] := by rw [hw5]; exact (Chg.alloc _ _ (fun _ => False)).blk (hc4.blk HRS.out.2.1 fun q => q) fun q => q
      have hc5 : Chg w1 w5 (fun _ => False) := by rw [hw5]; exact hc4.trans (Chg.alloc _ _ (fun _ => False)) fun _ _ q => q
      have HQ := Lib.hid (And.intro hz5 (And.intro hs4 (And.intro hr5 (And.intro hb5 (And.intro hz0 hc5))))); clear hz5 hs4 hr5 hb5 hz0 hb4
      have hl4 := later_of hc4
      have HL4 := Lib.hid hl4; clear hl4 hc4
      refine ⟨by first | exact HL4.out | exact fun _ => HL4.out, ?_⟩
      refine plan_group [false, false, false, false, false, false, false, false, false, false, false, false, false, false, false, true] [15] 2 (by dsimp only [sel]) (by rfl) rfl (by kernel_rfl) (by kernel_rfl) HL4.out ?_
      (repeat go_big_quiet_step (fail)); refine wpQuiet_nil ?_
      refine plan_one [false, false, false, false, false, false, false, false, false, false, false, false, false, false, false, false, true] 16 1 (by dsimp only [sel]) (by rfl) rfl (by kernel_rfl) ?_; intro K2 hK2; go_wp2_with fail
      rw [← hw5]
      have hl5 := later_of hc5
      refine ⟨by first | exact hl5 | exact fun _ => hl5, ?_⟩
      clear hl5 hc5 hw5
      refine plan_one [false, false, false, false, false, false, false, false, false, false, false, false, false, false, false, false, false, true] 17 0 (by dsimp only [sel]) (by rfl) rfl (by kernel_rfl) ?_; intro K3 hK3; go_wp2_with (show Go.wpList _ _ _ (⟨_, .store _ (.tmp 7) (.tmp 24), _, _, _, _⟩ :: _) _ _; go_loud (refine wpList_store_row rfl 42 (.tmp 7) (.tmp 24) rfl w4.heap.size #[.int .i64 0, .int .i64 L, .int .i64 id, .int .i64 epoch, .int .i64 seq, .slice A2 n c2] rfl rfl 42 _ HQ.out.1 cn.infoBat rfl (by simp [Value.oneCell']) ?_))
      have HE := Lib.hid (HFIN.out _ _ _ _ HQ.out.1 HQ.out.2.1 HQ.out.2.2.1 HQ.out.2.2.2.1 HQ.out.2.2.2.2.1)
      have hl6 := later_of (HQ.out.2.2.2.2.2.trans (cn.chg_row w5 w4.heap.size #[.int .i64 0, .int .i64 L, .int .i64 id, .int .i64 epoch, .int .i64 seq, .slice A2 n c2]) fun k hk q => absurd hk (by rw [show k = w4.heap.size from q]; exact Nat.not_lt.2 (by have h1 := HQ.out.2.1; have h2 := HS1.out; omega)))
      refine ⟨by first | exact hl6 | exact fun _ => hl6, ?_⟩
      refine wp_plan_end (by kernel_rfl) ?_
      refine hK5 _ _ ?_
      go_wp2_with fail
      go_meet
      case rel => exact ⟨w4.heap.size, A2, c2, rfl, HQ.out.2.1, HE.out⟩
    · intro K1 hK1
      go_wp2_with fail
      obtain ⟨w3, hw3⟩ : ∃ w3, w3 = (w1.alloc (.cells #[.int .i64 0, .int .i64 0, .int .i64 0, .int .i64 0, .int .i64 0, .slice none 0 0] 42)).drew := ⟨_, rfl⟩
      rw [← hw3]
      have hz3 : Blk w3 w1.heap.size 42 #[.int .i64 0, .int .i64 0, .int .i64 0, .int .i64 0, .int .i64 0, .slice none 0 0] := by rw [hw3]; exact (Blk.new w1 _ _).drew 1
      have hc3 : Chg w1 w3 (fun _ => False) := by rw [hw3]; exact (Chg.alloc _ _ _).drew
      have hs3 : w3.heap.size = g0 + 2 := by rw [hw3]; show (w1.alloc _).heap.size = _; rw [World.size_alloc, HS1.out]
      have hb3 : Below g0 w w3 := HRS.out.2.2.1.trans ((hc3.below (B := g0) (by rw [HS1.out]; omega) fun _ q => q.elim))
      have hl3 := later_of hc3
      have HL3 := Lib.hid (And.intro hl3 (And.intro hz3 (And.intro hc3 (And.intro hs3 hb3)))); clear hl3 hz3 hc3 hs3 hw3
      refine ⟨by first | exact HL3.out.1 | exact fun _ => HL3.out.1, ?_⟩
      refine plan_one [false, false, false, false, false, false, false, false, false, false, false, false, false, false, true] 14 2 (by dsimp only [sel]) (by rfl) rfl (by kernel_rfl) ?_; intro K2 hK2
      go_wp2_with (go_at_call 47; refine (HRS.out.1 _ hb3).mono ?_; rintro e w4 ⟨A2, c2, rfl, h1, h2⟩; have H4 := Lib.hid (And.intro h1 h2); clear h1 h2)
      have hc34 := chg_of (P := fun _ => False) H4.out.2
      have hz5 : Blk w4 w1.heap.size 42 #[.int .i64 0, .int .i64 0, .int .i64 0, .int .i64 0, .int .i64 0, .slice none 0 0] := hc34.blk HL3.out.2.1 fun q => q
      have hc4 : Chg w1 w4 (fun _ => False) := HL3.out.2.2.1.trans hc34 fun _ _ q => q
      have hb4 : Below g0 w w4 := hb3.trans (H4.out.2.mono (by rw [HL3.out.2.2.2.1]; omega))
      have hr5 : w4.ownsRow (g0 + 1) 44 6 (.slice A2 n c2) n (cellsOf (n * 6) V) := ownsRow_base H4.out.1 (by rw [HL3.out.2.2.2.1]; omega)
      have hz0 : Blk w4 g0 42 #[.int .i64 0, .int .i64 0, .int .i64 0, .int .i64 0, .int .i64 0, .slice none 0 0] := hc4.blk HRS.out.2.1 fun q => q
      obtain ⟨w5, hw5⟩ : ∃ w5 : World, w5 = w4 := ⟨_, rfl⟩
      subst hw5
      have HQ := Lib.hid (And.intro hz5 (And.intro (show g0 + 1 ≤ w1.heap.size by rw [HS1.out]; exact Nat.le_refl _) (And.intro hr5 (And.intro hb4 (And.intro hz0 hc4))))); clear hz5 hr5 hz0 hb4 hc34
      have hl4 := later_of hc4
      have HL4 := Lib.hid hl4; clear hl4 hc4
      refine ⟨by first | exact HL4.out | exact fun _ => HL4.out, ?_⟩
      refine plan_group [false, false, false, false, false, false, false, false, false, false, false, false, false, false, false, true] [15] 1 (by dsimp only [sel]) (by rfl) rfl (by kernel_rfl) (by kernel_rfl) HL4.out ?_
      (repeat go_big_quiet_step (fail)); refine wpQuiet_nil ?_
      refine plan_one [false, false, false, false, false, false, false, false, false, false, false, false, false, false, false, false, false, true] 17 0 (by dsimp only [sel]) (by rfl) rfl (by kernel_rfl) ?_; intro K3 hK3; go_wp2_with (show Go.wpList _ _ _ (⟨_, .store _ (.tmp 7) (.tmp 24), _, _, _, _⟩ :: _) _ _; go_loud (refine wpList_store_row rfl 42 (.tmp 7) (.tmp 24) rfl w1.heap.size #[.int .i64 0, .int .i64 L, .int .i64 id, .int .i64 epoch, .int .i64 seq, .slice A2 n c2] rfl rfl 42 _ HQ.out.1 cn.infoBat rfl (by simp [Value.oneCell']) ?_))
      have HE := Lib.hid (HFIN.out _ _ _ _ HQ.out.1 HQ.out.2.1 HQ.out.2.2.1 HQ.out.2.2.2.1 HQ.out.2.2.2.2.1)
      have hl6 := later_of (HQ.out.2.2.2.2.2.trans (cn.chg_row w5 w1.heap.size #[.int .i64 0, .int .i64 L, .int .i64 id, .int .i64 epoch, .int .i64 seq, .slice A2 n c2]) fun k hk q => absurd hk (by rw [show k = w1.heap.size from q]; exact Nat.not_lt.2 (Nat.le_refl _)))
      refine ⟨by first | exact hl6 | exact fun _ => hl6, ?_⟩
      refine wp_plan_end (by kernel_rfl) ?_
      refine hK5 _ _ ?_
      go_wp2_with fail
      go_meet
      case rel => exact ⟨w1.heap.size, A2, c2, rfl, HQ.out.2.1, HE.out⟩
  case rest =>
    obtain ⟨gb, A2, c2, rfl, hgb, hbk, hrow, hbw, hz0⟩ := hcut
    clear p0' p1' hpl
    have c5 := hbk.cell 5 rfl
    have hbl := hbk.lt
    have HC := Lib.hid (And.intro hbk (And.intro hrow (And.intro hbw hz0))); clear hbk hrow hbw hz0
    go_upto_region 3 with fail
    clear c5 hbl
    go_loopw [28] (fun i wx => ∃ (j : Nat), j ≤ n ∧ i = .int .i64 (j : Int) ∧ Blk wx gb 42 #[.int .i64 0, .int .i64 L, .int .i64 id, .int .i64 epoch, .int .i64 seq, .slice A2 n c2] ∧ wx.ownsRow (g0 + 1) 44 6 (.slice A2 n c2) n (cellsOf (n * 6) (cn.num V j)) ∧ Below g0 w wx ∧ Blk wx g0 42 #[.int .i64 0, .int .i64 0, .int .i64 0, .int .i64 0, .int .i64 0, .slice none 0 0]) (fun i _ => n - (intOf i).toNat)
    case atStart => exact ⟨0, by omega, rfl, HC.out.1, by rw [cn.num_zero]; exact HC.out.2.1, HC.out.2.2.1, HC.out.2.2.2⟩
    case round =>
      obtain ⟨j, hj, rfl, hbk, hrow, hbw, hz0⟩ := hrel
      by_cases hlt : j < n
      · have hlt' : (j : Int) < (n : Int) := by omega
        obtain ⟨g, rfl⟩ : ∃ g, A2 = some ⟨g, 0, none⟩ := by
          rcases hrow.2 with ⟨h1, -⟩ | ⟨g, cap, cur, h1, -⟩
          · exfalso
            have : n = 0 := by injection h1
            omega
          · exact ⟨g, by injection h1⟩
        have hset := cn.own_set hrow (j * 6) (.int .i64 (j : Int))
        rw [cn.num_succ] at hset
        have hgw := hrow.lt g rfl
        have hgb2 : gb ≠ g := fun e => by subst e; exact hbk.not_row (by decide) hrow rfl
        obtain ⟨A3, c3, e3, -, hat⟩ := own_at hrow
        obtain ⟨rfl, rfl⟩ : A3 = some ⟨g, 0, none⟩ ∧ c2 = c3 := by simp at e3; exact ⟨e3.1.symm, e3.2⟩
        obtain ⟨b, off, e4, hbb, hcc⟩ := hat (by omega)
        obtain ⟨rfl, rfl⟩ : g = b ∧ 0 = off := by simpa using e4
        have hcell := hcc (j * 6) (by omega)
        rw [Nat.zero_add] at hcell
        have hfr : wr.frozen? ⟨g, j * 6, none⟩ = false := by
          rcases hrow.2 with ⟨h1, -⟩ | ⟨g', cap, cur, h1, -, h4, -⟩
          · cases h1
          · obtain rfl : g = g' := by have : some (⟨g, 0, none⟩ : Addr) = some ⟨g', 0, none⟩ := by injection h1
                                      simpa using this
            exact Blk.frozen (T := 44) h4 (j * 6)
        have c5 := hbk.cell 5 rfl
        have hbl := hbk.lt
        have HR := Lib.hid (And.intro hbk (And.intro hset (And.intro hbw (And.intro hz0 hgw)))); clear hbk hset hrow hbw hz0 hgw hat hcc e3
        go_wp2_with fail
        clear hcell hfr c5 hbl
        have hc := Chg.setCell wr g (j * 6) (.int .i64 (j : Int))
        have hg1 := HR.out.2.2.2.2.1
        have hg0 := HRS.out.2.2.2.2.2.1
        have hsz := HR.out.2.2.1.size
        exact ⟨⟨j + 1, by omega, by go_num, hc.blk HR.out.1 hgb2, HR.out.2.1, HR.out.2.2.1.trans (hc.below (by omega) fun k hk => by have hk : k = g := hk; omega), hc.blk HR.out.2.2.2.1 fun e => by omega⟩, by simp [intOf]; omega⟩
      · obtain rfl : j = n := by omega
        have k0 := hbk.cell 0 rfl
        have k1 := hbk.cell 1 rfl
        have k2 := hbk.cell 2 rfl
        have k3 := hbk.cell 3 rfl
        have k4 := hbk.cell 4 rfl
        have k5 := hbk.cell 5 rfl
        have hbl := hbk.lt
        have HR := Lib.hid (And.intro hrow (And.intro hbw hz0)); clear hrow hbw hz0 hbk
        go_wp2_with (refine wpList_store_row rfl 42 (.tmp 6) (.tmp 38) rfl g0 #[.int .i64 0, .int .i64 L, .int .i64 id, .int .i64 epoch, .int .i64 seq, .slice A2 j c2] rfl rfl 42 _ HR.out.2.2 cn.infoBat rfl (by simp [Value.oneCell']) ?_)
        have hz9 := cn.blk_row HR.out.2.2 #[.int .i64 0, .int .i64 L, .int .i64 id, .int .i64 epoch, .int .i64 seq, .slice A2 j c2]
        have hc9 := cn.chg_row wr g0 #[.int .i64 0, .int .i64 L, .int .i64 id, .int .i64 epoch, .int .i64 seq, .slice A2 j c2]
        generalize wr.setRow g0 #[.int .i64 0, .int .i64 L, .int .i64 id, .int .i64 epoch, .int .i64 seq, .slice A2 j c2] = w9 at *
        refine bodyPost_ret (cn.res_cell1 rfl _ _ _ _ _ rfl hz9 Try.underlying42 rfl cn.infoBat) rfl ?_
        have hjl := HNN.out
        have hg0 := HRS.out.2.2.2.2.2.1
        have hsz := HR.out.2.1.size
        have hbw9 : Below w.heap.size w w9 := by rw [← hg0]; exact HR.out.2.1.trans (hc9.below (by omega) fun k hk => by have hk : k = g0 := hk; omega)
        have hown := hc9.own HR.out.1 fun k hk e => by have h1 := (HR.out.1.lt k hk).1; have e : k = g0 := e; omega
        obtain ⟨A3, c3, e3, hjc, hat⟩ := own_at hown
        obtain ⟨rfl, rfl⟩ : A2 = A3 ∧ c2 = c3 := by simp at e3; exact ⟨e3.1, e3.2⟩
        have hcap := own_cap hown
        refine ⟨A2, c2, ?_, ⟨A2, c2, cn.num V j, by rw [cn.numbered_len, ← hjl], by rw [cn.numbered_len, ← hjl]; exact hjc, hcap, ?_, fun i r hr => ?_⟩, hbw9⟩
        · unfold Bat.hval cn.bat
          rw [HLL.out]
          dsimp only
          rw [← hjl]
          have : (if (j : Int) - 1 < 0 then (0 : Int) else (j : Int) - 1) = max ((j : Int) - 1) 0 := by split <;> omega
          rw [this]
        · rw [cn.numbered_len, ← hjl]
          refine hat.congr fun q hq => ?_
          simp only [List.getD]
          rw [cellsOf_get _ _ _ hq]
          rfl
        · have h1 := cn.num_row (by omega) HRS.out.2.2.2.2.2.2.2 i r hr
          rw [← hjl] at h1
          exact h1.below hbw9 (Nat.le_refl _)
end
section
open Go.RowKit Go.Maps
set_option maxRecDepth 100000

theorem cn.clone_bytes (X : Option Addr) (c : Nat) (L : List Nat) (w : World) (hm : L.length ≤ 140737488351232) (hat : At w X L.length (byteAt L)) :
    Calls Try.prog 48 #[.slice X L.length c] w fun e w' => ∃ A2 c2, e = .returned (.slice A2 L.length c2) ∧ w'.ownsRow w.heap.size 5 1 (.slice A2 L.length c2) L.length (u8s L) ∧ Below w.heap.size w w' := by
  refine (clone_any X L.length c L w rfl hm hat).mono ?_
  rintro e w' ⟨⟨v, rfl, h1⟩, h2⟩
  obtain ⟨A2, c2, rfl, -⟩ := own_at h1
  exact ⟨A2, c2, rfl, h1, h2⟩
set_option maxHeartbeats 4000000 in
theorem cn.copy_any (corr : Int) (topic : ByteArray) (part : Int) (X : Option Addr) (c : Nat) (L : List Nat) (w : World) (hm : L.length ≤ 140737488351232) (hat : At w X L.length (byteAt L)) :
    Calls Try.prog 28 #[.agg (cn.req corr topic part (.slice X L.length c))] w fun e w' => ∃ A2 c2, e = .returned (.agg (cn.req corr topic part (.slice A2 L.length c2))) ∧ w'.ownsRow w.heap.size 5 1 (.slice A2 L.length c2) L.length (u8s L) ∧ Below w.heap.size w w' := by
  obtain ⟨m, hml⟩ : ∃ m, m = L.length := ⟨_, rfl⟩
  obtain ⟨g, hg⟩ : ∃ g, g = w.heap.size := ⟨_, rfl⟩
  obtain ⟨w2, hw2⟩ : ∃ w2, w2 = (w.alloc (.cells (cn.req corr topic part (.slice X m c)) 35)).alloc (.cells cn.zero 35) := ⟨_, rfl⟩
  have hs2 : w2.heap.size = g + 2 := by rw [hw2, hg]; simp
  have hb2 : Below g w w2 := by rw [hw2, hg]; exact ((Below.refl _ _).alloc (Nat.le_refl _) _).alloc (by simp) _
  have hk2 : Blk w2 g 35 (cn.req corr topic part (.slice X m c)) := by rw [hw2, hg]; exact (Below.heap_alloc _ _ _ (by simp)).trans (Blk.new w _ _)
  have hz2 : Blk w2 (g + 1) 35 cn.zero := by
    have h := Blk.new (w.alloc (.cells (cn.req corr topic part (.slice X m c)) 35)) 35 cn.zero
    rw [World.size_alloc, ← hg, ← hw2] at h
    exact h
  have hcl := cn.clone_bytes X c L w2 hm (hat.below hb2 (by rw [hg]; exact Nat.le_refl _))
  rw [← hml] at hcl ⊢
  have c12 := hk2.cell 12 (v := .slice X m c) rfl
  have l12 := hk2.lt
  unfold cn.req cn.zero at hw2
  have H2 := Lib.hid (And.intro hs2 (And.intro hb2 (And.intro hk2 (And.intro hz2 (And.intro hw2 (And.intro hg hcl)))))); clear hs2 hb2 hk2 hz2 hw2 hg hcl hat hm
  clear hml
  unfold cn.req
  go_enter Try.func28, Try.ntmps28
  go_upto_region 1 with fail
  rw [← H2.out.2.2.2.2.2.1, ← H2.out.2.2.2.2.1]
  go_upto_region 2 with (go_at_call 48; refine H2.out.2.2.2.2.2.2.mono ?_; rintro e w3 ⟨A2, c2, rfl, h1, h2⟩; have hk3 := (chg_of (P := fun _ => False) h2).blk H2.out.2.2.1 fun q => q; have e12 := hk3.cell 12 (v := .slice X m c) rfl; have f12 := hk3.frozen 12; have l3 := hk3.lt; have H3 := Lib.hid (And.intro h1 (And.intro h2 hk3)); clear h1 h2 hk3)
  clear c12 l12 e12 f12 l3
  obtain ⟨w4, hw4⟩ : ∃ w4, w4 = w3.setCell ⟨g, 12, none⟩ (.slice A2 m c2) := ⟨_, rfl⟩
  rw [← hw4]
  have hk4 : Blk w4 g 35 #[.int .i64 4, .int .i64 corr, .string (ByteArray.mk #[]), .string topic, .int .i64 part, .int .i64 0, .int .i64 0, .int .i64 0, .string (ByteArray.mk #[]), .string (ByteArray.mk #[]), .int .i64 0, .slice none 0 0, .slice A2 m c2] := by rw [hw4]; exact H3.out.2.2.set 12 _
  have hc4 : Chg w3 w4 (fun k => k = g) := by rw [hw4]; exact Chg.setCell _ _ _ _
  have hz3 := (chg_of (P := fun _ => False) H3.out.2.1).blk H2.out.2.2.2.1 fun q => q
  have hz4 : Blk w4 (g + 1) 35 cn.zero := hc4.blk hz3 fun e => by have e : g + 1 = g := e; omega
  have ho4 := hc4.own H3.out.1 fun k hk e => by have h1 := (H3.out.1.lt k hk).1; have h2 := H2.out.1; have e : k = g := e; omega
  have hb4 : Below g w w4 := (H2.out.2.1.trans (H3.out.2.1.mono (by have h2 := H2.out.1; omega))).trans (hc4.below (by have h2 := H2.out.1; have h3 := H3.out.2.1.size; omega) fun k hk => by have hk : k = g := hk; omega)
  have H4 := Lib.hid (And.intro hz4 (And.intro ho4 hb4)); clear hz4 ho4 hb4 hz3 hw4 hc4
  have k0 := hk4.cell 0 rfl
  have k1 := hk4.cell 1 rfl
  have k2 := hk4.cell 2 rfl
  have k3 := hk4.cell 3 rfl
  have k4 := hk4.cell 4 rfl
  have k5 := hk4.cell 5 rfl
  have k6 := hk4.cell 6 rfl
  have k7 := hk4.cell 7 rfl
  have k8 := hk4.cell 8 rfl
  have k9 := hk4.cell 9 rfl
  have k10 := hk4.cell 10 rfl
  have k11 := hk4.cell 11 rfl
  have k12 := hk4.cell 12 rfl
  have l4 := hk4.lt
  clear hk4
  go_wp2_with (refine wpList_store_row rfl 35 (.tmp 2) (.tmp 7) rfl (g + 1) #[.int .i64 4, .int .i64 corr, .string (ByteArray.mk #[]), .string topic, .int .i64 part, .int .i64 0, .int .i64 0, .int .i64 0, .string (ByteArray.mk #[]), .string (ByteArray.mk #[]), .int .i64 0, .slice none 0 0, .slice A2 m c2] rfl rfl 35 _ H4.out.1 cn.infoReq rfl (by simp [Value.oneCell']) ?_)
  have hz5 := cn.blk_row H4.out.1 #[.int .i64 4, .int .i64 corr, .string (ByteArray.mk #[]), .string topic, .int .i64 part, .int .i64 0, .int .i64 0, .int .i64 0, .string (ByteArray.mk #[]), .string (ByteArray.mk #[]), .int .i64 0, .slice none 0 0, .slice A2 m c2]
  have hc5 := cn.chg_row w4 (g + 1) #[.int .i64 4, .int .i64 corr, .string (ByteArray.mk #[]), .string topic, .int .i64 part, .int .i64 0, .int .i64 0, .int .i64 0, .string (ByteArray.mk #[]), .string (ByteArray.mk #[]), .int .i64 0, .slice none 0 0, .slice A2 m c2]
  generalize w4.setRow (g + 1) #[.int .i64 4, .int .i64 corr, .string (ByteArray.mk #[]), .string topic, .int .i64 part, .int .i64 0, .int .i64 0, .int .i64 0, .string (ByteArray.mk #[]), .string (ByteArray.mk #[]), .int .i64 0, .slice none 0 0, .slice A2 m c2] = w5 at *
  refine bodyPost_ret (cn.res_cell1 rfl _ _ _ _ _ rfl hz5 Try.underlying35 rfl cn.infoReq) rfl ?_
  have hg := H2.out.2.2.2.2.2.1
  refine ⟨A2, c2, rfl, ownsRow_base (hc5.own H4.out.2.1 fun k hk e => by have h1 := (H4.out.2.1.lt k hk).1; have h2 := H2.out.1; have e : k = g + 1 := e; omega) (by have h2 := H2.out.1; omega), ?_⟩
  rw [← hg]
  exact H4.out.2.2.trans (hc5.below (by have h2 := H2.out.1; have h3 := H4.out.2.2.size; omega) fun k hk => by have hk : k = g + 1 := hk; omega)
end
section
open Go.RowKit Go.Maps
set_option maxRecDepth 100000

theorem cn.infoSent : (Try.prog.info? 83).map (fun i => (i.zero, i.size, i.bytes)) = some (some (.agg (cn.zero ++ #[.int .i64 0])), 14, 176) := by kernel_rfl
set_option maxHeartbeats 2000000 in
theorem cn.make_wait (p : Nat) (id epoch corr : Int) (s : CSent) (D : SlotK → Int) (F : Nat → Prop) (n : Nat) (topic : ByteArray) (part : Int) (v : Value) (w : World) (h : CnAt w p id epoch corr (some s) D F n) :
    Calls Try.prog 13 #[.pointer (some ⟨p, 0, none⟩), .string topic, .int .i64 part, v] w fun e w' => e = .returned (.tuple #[.agg cn.zero, .int .i64 14]) ∧ Below w.heap.size w w' := by
  have hw := h.below ((Below.refl w.heap.size w).alloc (Nat.le_refl _) (.cells cn.zero 35))
  obtain ⟨uv, mb, N, g, h1, -, -, -, ⟨dv, h5, -⟩, -⟩ := hw
  obtain ⟨Au, cu, rfl, -, -⟩ := own_at h5
  have c3 := h1.cell 3 rfl
  have l3 := h1.lt
  unfold cn.zero at c3 l3
  clear h1 h5 h
  go_enter Try.func13, Try.ntmps13
  go_wp2_with fail
  refine bodyPost_ret (cn.res_cell2 rfl _ _ w.heap.size cn.zero _ rfl (Blk.new w 35 cn.zero) Try.underlying35 rfl cn.infoReq) rfl ?_
  exact ⟨rfl, (Below.refl _ _).alloc (Nat.le_refl _) _⟩
set_option maxHeartbeats 8000000 in
theorem cn.make_ok (p : Nat) (id epoch corr : Int) (D : SlotK → Int) (F : Nat → Prop) (n : Nat) (x : SlotK) (A : Option Addr) (c : Nat) (rs : List Rec) (w : World) (h : CnAt w p id epoch corr none D F n) (hv : RecsV w (.slice A rs.length c) rs) (hl : rs.length ≤ 1000) (hne : 0 < rs.length)
    (hck : (cn.bat id epoch (D x) rs).check = 0) (hcorr : 0 ≤ corr ∧ corr ≤ 1000000000) :
    Calls Try.prog 13 #[.pointer (some ⟨p, 0, none⟩), .string x.s, .int .i64 x.p, .slice A rs.length c] w fun e w' => ∃ A2 c2 M, e = .returned (.tuple #[.agg (cn.req (corr + 1) x.s x.p (.slice A2 (cn.bat id epoch (D x) rs).bytes.length c2)), .int .i64 0]) ∧
      w'.ownsRow M 5 1 (.slice A2 (cn.bat id epoch (D x) rs).bytes.length c2) (cn.bat id epoch (D x) rs).bytes.length (u8s (cn.bat id epoch (D x) rs).bytes) ∧ w.heap.size ≤ M ∧
      CnAt w' p id epoch (corr + 1) (some ⟨corr + 1, x.s, x.p, (cn.bat id epoch (D x) rs).bytes, rs.length⟩) D (fun k => (F k ∨ w.heap.size ≤ k) ∧ k < M) n ∧ Chg w w' F := by
  obtain ⟨b, hb⟩ : ∃ b, b = cn.bat id epoch (D x) rs := ⟨_, rfl⟩
  obtain ⟨L, hL⟩ : ∃ L, L = b.bytes := ⟨_, rfl⟩
  obtain ⟨m, hm⟩ : ∃ m, m = L.length := ⟨_, rfl⟩
  obtain ⟨g, hg⟩ : ∃ g, g = w.heap.size := ⟨_, rfl⟩
  obtain ⟨w1, hw1⟩ : ∃ w1, w1 = w.alloc (.cells cn.zero 35) := ⟨_, rfl⟩
  have hc1 : Chg w w1 (fun _ => False) := by rw [hw1]; exact Chg.alloc _ _ _
  have hz1 : Blk w1 g 35 cn.zero := by rw [hw1, hg]; exact Blk.new _ _ _
  have hs1 : w1.heap.size = g + 1 := by rw [hw1, hg]; exact World.size_alloc _ _
  have hcn1 := h.keep hc1 fun _ _ q => q
  have hv1 : RecsV w1 (.slice A rs.length c) rs := hv.below (by rw [hw1]; exact (Below.refl _ _).alloc (Nat.le_refl _) _) (Nat.le_refl _)
  have hseq := cn.seq_any x p id epoch corr none D F n w1 hcn1
  have hbat := cn.batch_any p id epoch corr none D F n A c rs (D x) w1 hcn1 hv1 hl
  have henc : ∀ wx A2 c2, RecsV wx (.slice A2 rs.length c2) (cn.numbered rs) → Calls Try.prog 26 #[b.hval A2 rs.length c2] wx fun e w' => ∃ Ad cd, e = .returned (.tuple #[.slice Ad m cd, .int .i64 0]) ∧ w'.ownsRow wx.heap.size 5 1 (.slice Ad m cd) m (u8s L) ∧ Below wx.heap.size wx w' := fun wx A2 c2 hr => by
    have hlen : b.recs.length = rs.length := by rw [hb]; exact cn.numbered_len rs
    have hre : b.recs = cn.numbered rs := by rw [hb]; rfl
    have := bat.encode_any b A2 c2 wx (by rw [hlen, hre]; exact hr) (by rw [hb]; exact hck)
    rw [hlen] at this
    refine this.mono ?_
    rintro e w' ⟨⟨v, rfl, h1⟩, h2⟩
    rw [← hL, ← hm] at h1
    obtain ⟨Ad, cd, rfl, -⟩ := own_at h1
    exact ⟨Ad, cd, rfl, h1, h2⟩
  rw [← hb] at hbat ⊢
  rw [← hL, ← hm]
  have hm6 : m ≤ 65536 := by rw [hm, hL, hb]; exact (Bat.summed_le hck).2.1
  obtain ⟨nr, hnr⟩ : ∃ nr, nr = rs.length := ⟨_, rfl⟩
  rw [← hnr] at hbat henc hl hne ⊢
  obtain ⟨uv, mb, N, gm, hblk, hgm, hD, hN, hrow, hfoot, hlt⟩ := hcn1
  obtain ⟨Au, cu, rfl, -, -⟩ := own_at (show w1.ownsRow 0 83 14 uv 0 [] from hrow)
  have c3 := hblk.cell 3 rfl
  have l3 := hblk.lt
  unfold cn.zero at hw1
  have HA := Lib.hid (And.intro hseq (And.intro hbat henc)); clear hseq hbat henc
  have H1 := Lib.hid (And.intro hc1 (And.intro hz1 (And.intro hs1 (And.intro hblk (And.intro hgm (And.intro hD (And.intro hN (And.intro hrow (And.intro hfoot (And.intro hlt hw1)))))))))); clear hc1 hz1 hs1 hblk hgm hD hN hrow hfoot hlt hw1
  have hltw := h.lt.2
  have HM := Lib.hid (And.intro hb (And.intro hL (And.intro hm (And.intro hg hltw)))); clear hb hL hm hg hck hv hv1 h hnr hltw
  have hne' : (nr : Int) ≠ 0 := by omega
  go_enter Try.func13, Try.ntmps13
  go_upto_region 1 with fail
  rw [← H1.out.2.2.2.2.2.2.2.2.2.2, ← HM.out.2.2.2.1]
  go_upto_region 8 with (first
    | (go_at_call 26; refine (HA.out.2.2 w2 A2 c2 H2.out.1).mono ?_; rintro e w3 ⟨Ad, cd, rfl, h1, h2⟩; have H3 := Lib.hid (And.intro h1 h2); clear h1 h2)
    | (go_at_call 27; refine HA.out.2.1.mono ?_; rintro e w2 ⟨A2, c2, rfl, h1, h2⟩; have H2 := Lib.hid (And.intro h1 h2); clear h1 h2)
    | (go_at_call 17; refine HA.out.1.mono ?_; rintro e w1' ⟨rfl, h3⟩; subst h3))
  clear c3 l3
  have hcp : Blk w3 p 77 #[.int .i64 id, .int .i64 epoch, .int .i64 corr, .slice Au 0 cu, .map (some mb)] := (chg_of (P := fun _ => False) H3.out.2).blk ((chg_of (P := fun _ => False) H2.out.2).blk H1.out.2.2.2.1 fun q => q) fun q => q
  have hc13 : Chg w1 w3 (fun _ => False) := (chg_of (P := fun _ => False) H2.out.2).trans (chg_of H3.out.2) fun _ _ q => q
  have c2' := hcp.cell 2 rfl
  have f2' := hcp.frozen 2
  have l2' := hcp.lt
  have HC3 := Lib.hid (And.intro hcp hc13); clear hcp hc13
  go_upto_region 9 with fail
  clear c2' f2' l2'
  obtain ⟨w4, hw4⟩ : ∃ w4, w4 = w3.setCell ⟨p, 2, none⟩ (.int .i64 (corr + 1)) := ⟨_, rfl⟩
  rw [← hw4]
  have hp4 : Blk w4 p 77 #[.int .i64 id, .int .i64 epoch, .int .i64 (corr + 1), .slice Au 0 cu, .map (some mb)] := by rw [hw4]; exact HC3.out.1.set 2 _
  have hc34 : Chg w3 w4 (fun k => k = p) := by rw [hw4]; exact Chg.setCell _ _ _ _
  clear hw4
  have c2 := hp4.cell 2 rfl
  have l2 := hp4.lt
  go_upto_region 10 with fail
  clear c2 l2
  obtain ⟨q5, hq5⟩ : ∃ q5, q5 = w4.heap.size := ⟨_, rfl⟩
  obtain ⟨w5, hw5⟩ : ∃ w5, w5 = w4.alloc (.cells #[.int .i64 4, .int .i64 (corr + 1), .string (ByteArray.mk #[]), .string x.s, .int .i64 x.p, .int .i64 0, .int .i64 0, .int .i64 0, .string (ByteArray.mk #[]), .string (ByteArray.mk #[]), .int .i64 0, .slice none 0 0, .slice Ad m cd] 35) := ⟨_, rfl⟩
  rw [← hw5, ← hq5]
  have hr5 : Blk w5 q5 35 #[.int .i64 4, .int .i64 (corr + 1), .string (ByteArray.mk #[]), .string x.s, .int .i64 x.p, .int .i64 0, .int .i64 0, .int .i64 0, .string (ByteArray.mk #[]), .string (ByteArray.mk #[]), .int .i64 0, .slice none 0 0, .slice Ad m cd] := by rw [hw5, hq5]; exact Blk.new _ _ _
  have hc45 : Chg w4 w5 (fun _ => False) := by rw [hw5]; exact Chg.alloc _ _ _
  have hp5 := hc45.blk hp4 fun q => q
  have hc15 : Chg w1 w5 (fun k => k = p) := ((HC3.out.2.mono fun _ _ q => q.elim).trans hc34 fun _ _ q => q).trans hc45 fun _ _ q => q.elim
  have hod5 := ((hc34.trans hc45 fun _ _ q => q.elim).own H3.out.1 fun k hk e => by have h1 := (H3.out.1.lt k hk).1; have h2 := H2.out.2.size; have h3 := H1.out.2.2.2.1.lt; have e : k = p := e; omega)
  have HOD := Lib.hid hod5; clear hod5
  have hs5 : w5.heap.size = q5 + 1 := by rw [hw5, hq5]; exact World.size_alloc _ _
  have hpu : ¬ (Value.slice Au 0 cu).ownBlock = some p := fun e => H1.out.2.2.2.1.not_row (by decide) H1.out.2.2.2.2.2.2.2.1 e
  have hrow5 : w5.ownsRow 0 83 14 (.slice Au 0 cu) 0 [] := hc15.own H1.out.2.2.2.2.2.2.2.1 fun k hk e => hpu (by rw [← show k = p from e]; exact hk)
  have hqu : ¬ (Value.slice Au 0 cu).ownBlock = some q5 := fun e => hr5.not_row (by decide) hrow5 e
  have hult : ∀ k, (Value.slice Au 0 cu).ownBlock = some k → k < w1.heap.size := fun k hk => (H1.out.2.2.2.2.2.2.2.1.lt k hk).2
  clear hw5 hp4
  have q3 : ∀ x : Later w5 (fun k => (Value.slice Au 0 cu).ownBlock = some k), x.1.cell? ⟨p, 3, none⟩ = some (.slice Au 0 cu) := fun x => (x.2.blk hp5 hpu).cell 3 rfl
  have hrd : Blk w5.drew q5 35 #[.int .i64 4, .int .i64 (corr + 1), .string (ByteArray.mk #[]), .string x.s, .int .i64 x.p, .int .i64 0, .int .i64 0, .int .i64 0, .string (ByteArray.mk #[]), .string (ByteArray.mk #[]), .int .i64 0, .slice none 0 0, .slice Ad m cd] := hr5
  have r0 := hrd.cell 0 rfl
  have r1 := hrd.cell 1 rfl
  have r2 := hrd.cell 2 rfl
  have r3 := hrd.cell 3 rfl
  have r4 := hrd.cell 4 rfl
  have r5 := hrd.cell 5 rfl
  have r6 := hrd.cell 6 rfl
  have r7 := hrd.cell 7 rfl
  have r8 := hrd.cell 8 rfl
  have r9 := hrd.cell 9 rfl
  have r10 := hrd.cell 10 rfl
  have r11 := hrd.cell 11 rfl
  have r12 := hrd.cell 12 rfl
  have rl := hrd.lt
  have H5 := Lib.hid (And.intro hr5 (And.intro hp5 (And.intro hc15 (And.intro hs5 (And.intro hrow5 (And.intro hpu (And.intro hqu (And.intro hult hq5)))))))); clear hr5 hp5 hc15 hs5 hrow5 hpu hqu hult hc34 hc45 hrd hq5
  obtain ⟨j0, hj0, hj1, hj2, hj3⟩ := info_parts cn.infoSent
  have HI := Lib.hid (And.intro hj0 (And.intro hj1 (And.intro hj2 hj3))); clear hj0 hj1 hj2 hj3
  have hS0 : later w5 (fun k => (Value.slice Au 0 cu).ownBlock = some k) w5.drew := later_of ((Chg.refl _ _).drew)
  refine wp_planz 13 (S := fun w0 => ∃ x : Later w5 (fun k => (Value.slice Au 0 cu).ownBlock = some k), w0 = x.1) (by kernel_rfl) hS0 ?_
  intro hS' K6 hK6
  have HS := Lib.hid hS'; clear hS' hS0
  refine planz_group [true, true, true, true, true, false, true, true] [0, 1, 2, 3, 4, 6, 7] 7 (by dsimp only [sel]) (by rfl) rfl (by kernel_rfl) (by kernel_rfl) (by kernel_rfl) HS.out ?_
  (repeat go_big_quiet_step (fail)); refine wpQuiet_nil ?_
  refine planz_one [false, false, false, false, false, true] 5 6 (by dsimp only [sel]) (by rfl) rfl (by kernel_rfl) ?_; intro K1 hK1; go_wp2_with fail
  refine ⟨by first | exact HS.out | exact fun _ => HS.out, ?_⟩
  clear r0 r1 r2 r3 r4 r5 r6 r7 r8 r9 r10 r11 r12 rl
  refine planz_group [false, false, false, false, false, false, false, false, true] [8] 5 (by dsimp only [sel]) (by rfl) rfl (by kernel_rfl) (by kernel_rfl) (by kernel_rfl) HS.out ?_
  (repeat go_big_quiet_step (fail)); refine wpQuiet_nil ?_
  refine planz_one [false, false, false, false, false, false, false, false, false, true] 9 4 (by dsimp only [sel]) (by rfl) rfl (by kernel_rfl) ?_; intro K1 hK1; go_wp2_with fail
  obtain ⟨w6, hw6⟩ : ∃ w6, w6 = (w5.alloc (.cells #[.int .i64 4, .int .i64 (corr + 1), .string (ByteArray.mk #[]), .string x.s, .int .i64 x.p, .int .i64 0, .int .i64 0, .int .i64 0, .string (ByteArray.mk #[]), .string (ByteArray.mk #[]), .int .i64 0, .slice none 0 0, .slice Ad m cd, .int .i64 (nr : Int)] 83)).drew := ⟨_, rfl⟩
  have hcel : ∀ j u, ([.int .i64 4, .int .i64 (corr + 1), .string (ByteArray.mk #[]), .string x.s, .int .i64 x.p, .int .i64 0, .int .i64 0, .int .i64 0, .string (ByteArray.mk #[]), .string (ByteArray.mk #[]), .int .i64 0, .slice none 0 0, .slice Ad m cd, .int .i64 (nr : Int)] : List Value)[j]? = some u → w6.cell? ((⟨w5.heap.size, 0, none⟩ : Addr).add j) = some u := by rw [hw6]; exact cn.cells_new w5 _ _ _ rfl
  have hc6 : Chg w5 w6 (fun _ => False) := by rw [hw6]; exact (Chg.alloc _ _ _).drew
  have hs6 : w6.heap.size = w5.heap.size + 1 := by rw [hw6]; exact World.size_alloc _ _
  rw [← hw6]
  clear hw6
  have hl6 : later w5 (fun k => (Value.slice Au 0 cu).ownBlock = some k) w6 := later_of (hc6.mono fun _ _ q => q.elim)
  have HL6 := Lib.hid hl6; clear hl6
  refine ⟨by first | exact HL6.out | exact fun _ => HL6.out, ?_⟩
  have hown6 := hc6.own H5.out.2.2.2.2.1 fun _ _ q => q
  have hone : ∀ y ∈ ([.int .i64 4, .int .i64 (corr + 1), .string (ByteArray.mk #[]), .string x.s, .int .i64 x.p, .int .i64 0, .int .i64 0, .int .i64 0, .string (ByteArray.mk #[]), .string (ByteArray.mk #[]), .int .i64 0, .slice none 0 0, .slice Ad m cd, .int .i64 (nr : Int)] : List Value), y.oneCell' = true := fun y hx => by
    simp only [List.mem_cons, List.not_mem_nil, or_false] at hx
    rcases hx with rfl | rfl | rfl | rfl | rfl | rfl | rfl | rfl | rfl | rfl | rfl | rfl | rfl | rfl <;> rfl
  have HO := Lib.hid (And.intro hown6 (And.intro hcel (And.intro hone (And.intro hc6 hs6)))); clear hown6 hcel hone hc6 hs6
  refine planz_one [false, false, false, false, false, false, false, false, false, false, true] 10 3 (by dsimp only [sel]) (by rfl) rfl (by kernel_rfl) ?_; intro K1 hK1
  go_wp2_with (at_builtin; go_loud (refine wpList_append_own_at _ rfl (.tmp 61) (.tmp 66) 75 rfl 0 83 j0 _ 14 176 Try.underlying75 HI.out.1 HI.out.2.1 HI.out.2.2.1 HI.out.2.2.2 rfl (by decide) (.slice Au 0 cu) 0 _ rfl HO.out.1 ⟨w5.heap.size, 0, none⟩ 1 1 [.int .i64 4, .int .i64 (corr + 1), .string (ByteArray.mk #[]), .string x.s, .int .i64 x.p, .int .i64 0, .int .i64 0, .int .i64 0, .string (ByteArray.mk #[]), .string (ByteArray.mk #[]), .int .i64 0, .slice none 0 0, .slice Ad m cd, .int .i64 (nr : Int)] rfl rfl HO.out.2.1 HO.out.2.2.1 (by unfold maxLen; omega) (by omega) (by simp) ?_; intro v7 w7 h1 h2 _ h3; have H7 := Lib.hid (And.intro h1 (And.intro h2 h3)); clear h1 h2 h3))
  obtain ⟨A7, c7, hv7, -, -⟩ := own_at H7.out.1
  subst hv7
  have hc7 : Chg w5 w7 (fun k => (Value.slice Au 0 cu).ownBlock = some k) := (HO.out.2.2.2.1.mono fun _ _ q => q.elim).trans (Chg.grown H7.out.2.1) fun _ _ q => q
  have hbz7 := hc7.blk H5.out.2.1 H5.out.2.2.2.2.2.1
  have n3 : w7.cell? ⟨p, 3, none⟩ = some (.slice Au 0 cu) := q3 ⟨w7, hc7⟩
  have z3 := hbz7.frozen 3
  have zl7 := hbz7.lt
  have HB7 := Lib.hid (And.intro hbz7 hc7)
  have hl7 : later w5 (fun k => (Value.slice Au 0 cu).ownBlock = some k) w7 := later_of hc7
  have HL7 := Lib.hid hl7; clear hl7 hc7 hbz7
  refine ⟨by first | exact HL7.out | exact fun _ => HL7.out, ?_⟩
  go_simp
  refine planz_one [false, false, false, false, false, false, false, false, false, false, false, true] 11 2 (by dsimp only [sel]) (by rfl) rfl (by kernel_rfl) ?_; intro K1 hK1; go_wp2_with fail
  refine ⟨by first | exact HL7.out | exact fun _ => HL7.out, ?_⟩
  refine planz_one [false, false, false, false, false, false, false, false, false, false, false, false, true] 12 1 (by dsimp only [sel]) (by rfl) rfl (by kernel_rfl) ?_; intro K1 hK1; go_wp2_with fail
  refine ⟨by first | exact HL7.out | exact fun _ => HL7.out, ?_⟩
  refine planz_one [false, false, false, false, false, false, false, false, false, false, false, false, false, true] 13 0 (by dsimp only [sel]) (by rfl) rfl (by kernel_rfl) ?_; intro K1 hK1; go_wp2_with fail
  first | (refine ⟨fun h => absurd rfl h, ?_⟩; refine wp_planz_end (by kernel_rfl) ?_) | refine wp_planz_end (by kernel_rfl) ?_ | refine ⟨by kernel_rfl, ?_⟩
  obtain ⟨w8, hw8⟩ : ∃ w8, w8 = w7.setCell ⟨p, 3, none⟩ (.slice A7 1 c7) := ⟨_, rfl⟩
  rw [← hw8]
  clear n3 z3 zl7 q3
  have hp8 : Blk w8 p 77 #[.int .i64 id, .int .i64 epoch, .int .i64 (corr + 1), .slice A7 1 c7, .map (some mb)] := by rw [hw8]; exact HB7.out.1.set 3 _
  have hc78 : Chg w7 w8 (fun k => k = p) := by rw [hw8]; exact Chg.setCell _ _ _ _
  have hc58 : Chg w5 w8 (fun k => (Value.slice Au 0 cu).ownBlock = some k ∨ k = p) := (HB7.out.2.mono fun _ _ q => .inl q).trans hc78 fun _ _ q => .inr q
  have hr8 : Blk w8 q5 35 #[.int .i64 4, .int .i64 (corr + 1), .string (ByteArray.mk #[]), .string x.s, .int .i64 x.p, .int .i64 0, .int .i64 0, .int .i64 0, .string (ByteArray.mk #[]), .string (ByteArray.mk #[]), .int .i64 0, .slice none 0 0, .slice Ad m cd] := hc58.blk H5.out.1 fun q => q.elim H5.out.2.2.2.2.2.2.1 fun e => by have h1 := H5.out.2.1.lt; have e : q5 = p := e; subst e; have h2 := H5.out.1.symm.trans H5.out.2.1; simp at h2
  clear hw8
  have H8 := Lib.hid (And.intro hp8 (And.intro hc58 (And.intro hr8 hc78))); clear hp8 hc58 hr8 hc78
  have hud : ∀ k, w2.heap.size ≤ k → ¬ ((Value.slice Au 0 cu).ownBlock = some k ∨ k = p) := fun k hk q => by
    have h2 := H2.out.2.size
    have h3 := H1.out.2.2.2.1.lt
    rcases q with q | q
    · have := H5.out.2.2.2.2.2.2.2.1 k q
      omega
    · omega
  have hod8 := H8.out.2.1.own HOD.out fun k hk => hud k (HOD.out.lt k hk).1
  have hod8' := hod8
  rw [HM.out.2.2.1] at hod8'
  obtain ⟨A9', c9', e9, hm9, -, hat9⟩ := own_bytes hod8'
  obtain ⟨rfl, rfl⟩ : Ad = A9' ∧ cd = c9' := by injection e9 with e1 e2 e3; exact ⟨e1, e3⟩
  clear hod8'
  clear e9
  have hmc : L.length ≤ 140737488351232 := by rw [← HM.out.2.2.1]; omega
  have hcopy := cn.copy_any (corr + 1) x.s x.p Ad cd L w8 hmc hat9
  rw [← HM.out.2.2.1] at hcopy
  have hg := HM.out.2.2.2.1
  have hpg : p ≠ g := fun e => by have h1 := HM.out.2.2.2.2 p H1.out.2.2.2.2.2.2.2.2.1.1; omega
  have hz8 : Blk w8 g 35 cn.zero := H8.out.2.1.blk (H5.out.2.2.1.blk H1.out.2.1 fun e => hpg e.symm) fun q => q.elim (fun q => by have h1 := HM.out.2.2.2.2 g (H1.out.2.2.2.2.2.2.2.2.1.2.2 g q); omega) fun e => hpg e.symm
  have HC := Lib.hid (And.intro hcopy (And.intro hz8 (And.intro hod8 (And.intro hud hpg)))); clear hcopy hz8 hod8 hud hmc hat9 hm9
  have r0 := H8.out.2.2.1.cell 0 rfl
  have r1 := H8.out.2.2.1.cell 1 rfl
  have r2 := H8.out.2.2.1.cell 2 rfl
  have r3 := H8.out.2.2.1.cell 3 rfl
  have r4 := H8.out.2.2.1.cell 4 rfl
  have r5 := H8.out.2.2.1.cell 5 rfl
  have r6 := H8.out.2.2.1.cell 6 rfl
  have r7 := H8.out.2.2.1.cell 7 rfl
  have r8 := H8.out.2.2.1.cell 8 rfl
  have r9 := H8.out.2.2.1.cell 9 rfl
  have r10 := H8.out.2.2.1.cell 10 rfl
  have r11 := H8.out.2.2.1.cell 11 rfl
  have r12 := H8.out.2.2.1.cell 12 rfl
  have rl := H8.out.2.2.1.lt
  have hpg' := hpg
  clear hpg hg
  go_upto_region 11 with fail
  go_wp2_with (first
    | (refine wpList_store_row rfl 35 (.tmp 8) (.tmp 71) rfl g #[.int .i64 4, .int .i64 (corr + 1), .string (ByteArray.mk #[]), .string x.s, .int .i64 x.p, .int .i64 0, .int .i64 0, .int .i64 0, .string (ByteArray.mk #[]), .string (ByteArray.mk #[]), .int .i64 0, .slice none 0 0, .slice A9 m c9] rfl rfl 35 _ H9.out.2.2 cn.infoReq rfl (by simp [Value.oneCell']) ?_)
    | (go_at_call 28; refine HC.out.1.mono ?_; rintro e w9 ⟨A9, c9, rfl, h1, h2⟩; unfold cn.req; have hz9 := (chg_of (P := fun _ => False) h2).blk HC.out.2.1 fun q => q; have H9 := Lib.hid (And.intro h1 (And.intro h2 hz9)); clear h1 h2 hz9))
  clear r0 r1 r2 r3 r4 r5 r6 r7 r8 r9 r10 r11 r12 rl
  have hz10 := cn.blk_row H9.out.2.2 #[.int .i64 4, .int .i64 (corr + 1), .string (ByteArray.mk #[]), .string x.s, .int .i64 x.p, .int .i64 0, .int .i64 0, .int .i64 0, .string (ByteArray.mk #[]), .string (ByteArray.mk #[]), .int .i64 0, .slice none 0 0, .slice A9 m c9]
  have hc10 := cn.chg_row w9 g #[.int .i64 4, .int .i64 (corr + 1), .string (ByteArray.mk #[]), .string x.s, .int .i64 x.p, .int .i64 0, .int .i64 0, .int .i64 0, .string (ByteArray.mk #[]), .string (ByteArray.mk #[]), .int .i64 0, .slice none 0 0, .slice A9 m c9]
  generalize w9.setRow g #[.int .i64 4, .int .i64 (corr + 1), .string (ByteArray.mk #[]), .string x.s, .int .i64 x.p, .int .i64 0, .int .i64 0, .int .i64 0, .string (ByteArray.mk #[]), .string (ByteArray.mk #[]), .int .i64 0, .slice none 0 0, .slice A9 m c9] = w10 at *
  refine bodyPost_ret (cn.res_cell2 rfl _ _ _ _ _ rfl hz10 Try.underlying35 rfl cn.infoReq) rfl ?_
  have hg := HM.out.2.2.2.1
  have hc89 := chg_of (P := fun _ => False) H9.out.2.1
  have hc810 : Chg w8 w10 (fun k => k = g) := (hc89.mono fun _ _ q => q.elim).trans hc10 fun _ _ q => q
  have hs18 : w1.heap.size ≤ w8.heap.size := Nat.le_trans H5.out.2.2.1.size H8.out.2.1.size
  have hs1 := H1.out.2.2.1
  have hs2 := H2.out.2.size
  obtain ⟨f1, f2, f3⟩ := H1.out.2.2.2.2.2.2.2.2.1
  have hFg : ∀ k, F k → k ≠ g := fun k hk e => by have h1 := HM.out.2.2.2.2 k hk; omega
  have hFl : ∀ k, F k → k < w8.heap.size := fun k hk => by have h1 := HM.out.2.2.2.2 k hk; omega
  have hmbp : p ≠ mb := H1.out.2.2.2.2.1.not_blk H1.out.2.2.2.1
  have hmbu : ¬ (Value.slice Au 0 cu).ownBlock = some mb := fun e => by
    rcases H1.out.2.2.2.2.2.2.2.1.2 with ⟨h1, -⟩ | ⟨k, cap, cur, h1, -, h4, -⟩
    · rw [h1] at e; cases e
    · rw [h1] at e
      obtain rfl : k = mb := by cases e; rfl
      exact H1.out.2.2.2.2.1.not_blk (T := 83) h4 rfl
  have hgm8 := (H1.out.2.2.2.2.1.chg H5.out.2.2.1 fun e => hmbp e.symm).chg H8.out.2.1 fun q => q.elim hmbu fun e => hmbp e.symm
  have hrow7 := H7.out.1
  have hrow8 := H8.out.2.2.2.own hrow7 fun k hk e => by subst e; exact HB7.out.1.not_row (by decide) hrow7 hk
  have hz8 := HC.out.2.1
  have hrow10 := hc810.own hrow8 fun k hk e => by subst e; exact hz8.not_row (by decide) hrow8 hk
  have hdat10 := hc810.own HC.out.2.2.1 fun k hk e => by have h1 := (HC.out.2.2.1.lt k hk).1; have e : k = g := e; omega
  refine ⟨A9, c9, w8.heap.size, rfl, hc10.own H9.out.1 fun k hk e => by have h1 := (H9.out.1.lt k hk).1; have e : k = g := e; omega, by omega, ?_, ?_⟩
  · refine ⟨.slice A7 1 c7, mb, N, gm, hc810.blk H8.out.1 HC.out.2.2.2.2, hgm8.chg hc810 (hFg mb f2), H1.out.2.2.2.2.2.1, H1.out.2.2.2.2.2.2.1, ⟨.slice Ad m cd, hrow10, ?_, fun k hk => ?_⟩, ⟨⟨.inl f1, hFl p f1⟩, ⟨.inl f2, hFl mb f2⟩, fun k hk => ?_⟩, fun k hk => Nat.lt_of_lt_of_le hk.2 hc810.size⟩
    · dsimp only
      rw [← HM.out.2.2.1]
      exact ownsRow_base hdat10 (Nat.zero_le _)
    · have h1 := HC.out.2.2.1.lt k hk
      exact ⟨.inr (by omega), h1.2⟩
    · refine ⟨?_, (hrow8.lt k hk).2⟩
      rcases H7.out.2.2 with e | e
      · exact .inl (f3 k (by rw [← e]; exact hk))
      · rw [e] at hk
        have hk : w6.heap.size = k := by simpa using hk
        have h6 := HO.out.2.2.2.2
        have h5 := H5.out.2.2.1.size
        exact .inr (by omega)
  · have hc15 : Chg w w5 (fun k => k = p) := (H1.out.1.mono fun _ _ q => q.elim).trans H5.out.2.2.1 fun _ _ q => q
    refine ((hc15.mono fun k _ e => by have e : k = p := e; rw [e]; exact f1).trans H8.out.2.1 fun k hk q => q.elim (f3 k) fun e => by have e : k = p := e; rw [e]; exact f1).trans hc810 fun k hk q => absurd hk (by rw [show k = g from q, hg]; exact Nat.lt_irrefl _)
end
section
open Go.RowKit Go.Maps
set_option maxRecDepth 100000

set_option maxHeartbeats 400000 in
theorem cn.again_any (code : Int) (w : World) : Calls Try.prog 31 #[.int .i64 code] w fun e w' => e = .returned (.bool (decide (code = 7 ∨ code = 15 ∨ code = 4))) ∧ w = w' := by
  go_enter Try.func31, Try.ntmps31
  by_cases h1 : code = 7
  · subst h1
    go_wp2_with fail
    go_ret
    exact ⟨rfl, rfl⟩
  by_cases h2 : code = 15
  · subst h2
    go_wp2_with fail
    go_ret
    exact ⟨rfl, rfl⟩
  by_cases h3 : code = 4
  · subst h3
    go_wp2_with fail
    go_ret
    exact ⟨rfl, rfl⟩
  have hd : decide (code = 7 ∨ code = 15 ∨ code = 4) = false := decide_eq_false (by omega)
  rw [hd]
  go_wp2_with fail
  go_ret
  exact ⟨by simp [h1, h2, h3], rfl⟩

theorem cn.row_frozen {w : World} {base g n c : Nat} {xs : List Value} (h : w.ownsRow base 83 14 (.slice (some ⟨g, 0, none⟩) n c) n xs) (j : Nat) : w.frozen? ⟨g, j, none⟩ = false := by
  rcases h.2 with ⟨h1, -⟩ | ⟨g', cap, cur, h1, h3, h4, -⟩
  · cases h1
  · obtain ⟨rfl, rfl⟩ : g = g' ∧ c = cap := by simpa using h1
    exact Blk.frozen (T := 83) (cs := cur) h4 j
def cn.zeros : List Value := (Builtin.zeroCells (Value.agg #[.int .i64 0, .int .i64 0, .string (ByteArray.mk #[]), .string (ByteArray.mk #[]), .int .i64 0, .int .i64 0, .int .i64 0, .int .i64 0, .string (ByteArray.mk #[]), .string (ByteArray.mk #[]), .int .i64 0, .slice none 0 0, .slice none 0 0, .int .i64 0]).cells 1).toList
theorem cn.zeros_is : (Builtin.zeroCells (Value.agg #[.int .i64 0, .int .i64 0, .string (ByteArray.mk #[]), .string (ByteArray.mk #[]), .int .i64 0, .int .i64 0, .int .i64 0, .int .i64 0, .string (ByteArray.mk #[]), .string (ByteArray.mk #[]), .int .i64 0, .slice none 0 0, .slice none 0 0, .int .i64 0]).cells 1).toList = cn.zeros := rfl
theorem cn.zeros_len : cn.zeros.length = 14 := by kernel_rfl
theorem cn.zeros_one : cn.zeros.all (fun v => v.oneCell') = true := by kernel_rfl
theorem cn.clear_run {w : World} {g c : Nat} {xs : List Value} (h : w.ownsRow 0 83 14 (.slice (some ⟨g, 0, none⟩) 1 c) 1 xs) (c' : Nat) (ty : TypeId) :
    (Builtin.clear_ #[75] ty #[.slice (some ⟨g, 0, none⟩) 1 c']).run Try.prog w = .ok (.tuple #[]) (w.setCells g 0 cn.zeros) := by
  have hst := run_storeCells_cells (P := Try.prog) g 0 cn.zeros 0 w (fun j hj => by
    rw [cn.zeros_len] at hj
    have hx := h.1
    have := h.cells (g := g) rfl (0 + j) _ (by rw [List.getElem?_eq_getElem (by omega)])
    rw [add_none, Nat.zero_add] at this
    rw [this]; rfl) (fun j _ => cn.row_frozen h _) (fun v hv => List.all_eq_true.1 cn.zeros_one v hv)
  simp only [Nat.add_zero] at hst
  simp [Builtin.clear_, run_underlying Try.underlying75, cn.zeros_is, hst]
theorem cn.chg_cells (g : Nat) : ∀ (zs : List Value) (o : Nat) (w : World), Chg w (w.setCells g o zs) (fun k => k = g)
  | [], _, w => Chg.refl w _
  | z :: zs, o, w => (Chg.setCell w g o z).trans (cn.chg_cells g zs (o + 1) _) fun _ _ h => h
theorem cn.own_cells {g n c : Nat} : ∀ (zs : List Value) (o : Nat) (w : World) (xs : List Value), w.ownsRow 0 83 14 (.slice (some ⟨g, 0, none⟩) n c) n xs →
    ∃ ys, (w.setCells g o zs).ownsRow 0 83 14 (.slice (some ⟨g, 0, none⟩) n c) n ys
  | [], _, _, xs, h => ⟨xs, h⟩
  | z :: zs, o, _, _, h => cn.own_cells zs (o + 1) _ _ (cn.own_set h o z)
theorem cn.own_none {w : World} {g n c : Nat} {xs : List Value} (h : w.ownsRow 0 83 14 (.slice (some ⟨g, 0, none⟩) n c) n xs) : w.ownsRow 0 83 14 (.slice (some ⟨g, 0, none⟩) 0 c) 0 [] := by
  refine ⟨rfl, ?_⟩
  rcases h.2 with ⟨h1, -⟩ | ⟨g', cap, cur, h1, h3, h4, h5, h6, h7, h8⟩
  · cases h1
  · obtain ⟨rfl, rfl⟩ : g = g' ∧ c = cap := by simpa using h1
    exact .inr ⟨g, c, cur, rfl, h3, h4, Nat.zero_le _, h6, h7, by simp⟩
set_option maxHeartbeats 4000000 in
theorem cn.delete_any (g c : Nat) (xs : List Value) (w : World) (h : w.ownsRow 0 83 14 (.slice (some ⟨g, 0, none⟩) 1 c) 1 xs) :
    Calls Try.prog 32 #[.slice (some ⟨g, 0, none⟩) 1 c, .int .i64 0, .int .i64 1] w fun e w' => e = .returned (.slice (some ⟨g, 0, none⟩) 0 c) ∧ w'.ownsRow 0 83 14 (.slice (some ⟨g, 0, none⟩) 0 c) 0 [] ∧ Chg w w' (fun k => k = g) := by
  obtain ⟨Ah, ch, eh, hc, -⟩ := own_at h
  obtain ⟨rfl, rfl⟩ : Ah = some ⟨g, 0, none⟩ ∧ c = ch := by injection eh with e1 e2 e3; exact ⟨e1.symm, e3⟩
  clear eh
  have hcap := own_cap h
  have HH := Lib.hid h; clear h
  go_enter Try.func32, Try.ntmps32
  go_upto_region 5 with fail
  by_cases hc1 : c = 1
  · subst hc1
    have hS0 : later w (fun k => k = g) w.drew := later_of ((Chg.refl _ _).drew)
    refine wp_plan (S := fun w0 => ∃ x : Later w (fun k => k = g), w0 = x.1) (by kernel_rfl) hS0 ?_
    intro hS' K5 hK5
    have HS := Lib.hid hS'; clear hS' hS0
    refine plan_group [true, true, true, true, true, true] [0, 1, 2, 3, 4, 5] 2 (by dsimp only [sel]) (by rfl) rfl (by kernel_rfl) (by kernel_rfl) HS.out ?_
    (repeat go_big_quiet_step (fail)); refine wpQuiet_nil ?_
    refine plan_one [false, false, false, false, false, false, true] 6 1 (by dsimp only [sel]) (by rfl) rfl (by kernel_rfl) ?_; intro K1 hK1; go_wp2_with fail
    refine ⟨by first | exact HS.out | exact fun _ => HS.out, ?_⟩
    refine plan_group [false, false, false, false, false, false, false, true] [7] 0 (by dsimp only [sel]) (by rfl) rfl (by kernel_rfl) (by kernel_rfl) HS.out ?_
    (repeat go_big_quiet_step (fail)); refine wpQuiet_nil ?_
    refine wp_plan_end (by kernel_rfl) ?_
    have hd : w.drew.ownsRow 0 83 14 (.slice (some ⟨g, 0, none⟩) 1 1) 1 xs := HH.out
    have hz := fun c' ty => cn.clear_run hd c' ty
    obtain ⟨ys, hys⟩ := cn.own_cells cn.zeros 0 _ _ hd
    have HY := Lib.hid (And.intro (cn.own_none hys) (((Chg.refl w (fun k => k = g)).drew).trans (cn.chg_cells g cn.zeros 0 _) fun _ _ q => q)); clear hys hd
    go_wp2_with fail
    go_ret
    exact ⟨rfl, HY.out.1, HY.out.2⟩
  · have hS0 : later w (fun k => k = g) w.drew := later_of ((Chg.refl _ _).drew)
    have hc2 : ¬ c ≤ 1 := by omega
    refine wp_plan (S := fun w0 => ∃ x : Later w (fun k => k = g), w0 = x.1) (by kernel_rfl) hS0 ?_
    intro hS' K5 hK5
    have HS := Lib.hid hS'; clear hS' hS0
    refine plan_group [true, true, true, true, true, true] [0, 1, 2, 3, 4, 5] 2 (by dsimp only [sel]) (by rfl) rfl (by kernel_rfl) (by kernel_rfl) HS.out ?_
    (repeat go_big_quiet_step (fail)); refine wpQuiet_nil ?_
    refine plan_one [false, false, false, false, false, false, true] 6 1 (by dsimp only [sel]) (by rfl) rfl (by kernel_rfl) ?_; intro K1 hK1; go_wp2_with fail
    refine ⟨by first | exact HS.out | exact fun _ => HS.out, ?_⟩
    refine plan_group [false, false, false, false, false, false, false, true] [7] 0 (by dsimp only [sel]) (by rfl) rfl (by kernel_rfl) (by kernel_rfl) HS.out ?_
    (repeat go_big_quiet_step (fail)); refine wpQuiet_nil ?_
    refine wp_plan_end (by kernel_rfl) ?_
    have hd : w.drew.ownsRow 0 83 14 (.slice (some ⟨g, 0, none⟩) 1 c) 1 xs := HH.out
    have hz := fun c' ty => cn.clear_run hd c' ty
    obtain ⟨ys, hys⟩ := cn.own_cells cn.zeros 0 _ _ hd
    have HY := Lib.hid (And.intro (cn.own_none hys) (((Chg.refl w (fun k => k = g)).drew).trans (cn.chg_cells g cn.zeros 0 _) fun _ _ q => q)); clear hys hd
    go_wp2_with fail
    go_ret
    exact ⟨rfl, HY.out.1, HY.out.2⟩
end
section
open Go.RowKit Go.Maps Go.WideMaps Go.WideElems Go.ChangeMaps
set_option maxRecDepth 100000

theorem cn.setBlock_chg (w : World) (b : Nat) (o : Obj) : Chg w (setBlock w b o) (fun k => k = b) := by
  refine ⟨rfl, rfl, rfl, by simp [setBlock], fun k _ hk => ?_⟩
  simp only [setBlock]
  rw [Array.getElem?_setIfInBounds, if_neg fun e => hk e.symm]
theorem cn.setBlock_two (w : World) (b : Nat) (o o' : Obj) : setBlock (setBlock w b o) b o' = setBlock w b o' := by
  simp [setBlock]
theorem cn.entry {w : World} {b N : Nat} {g : SlotK → Option Value} (h : GM slotKey w b N g) (x : SlotK) (hN : N < maxLen) :
    ∃ (v0 : Value) (st : Nat) (w1 : World) (N1 : Nat) (g1 : SlotK → Option Value), (Instr.mapEntry 74 (.map (some b)) (.agg #[.string x.s, .int .i64 x.p])).run Try.prog w = .ok (.tuple #[v0, .int .i64 st]) w1 ∧ GM slotKey w1 b N1 g1 ∧ (g1 x).getD (.int .i64 0) = (g x).getD (.int .i64 0) ∧ Chg w w1 (fun k => k = b) ∧
      ∀ c, ∃ w2 N2, (Instr.entryStore 74 (.map (some b)) (.int .i64 st) c).run Try.prog w1 = .ok () w2 ∧ GM slotKey w2 b N2 (gput g x c) ∧ N2 ≤ N + 1 ∧ Chg w w2 (fun k => k = b) := by
  have K : KeyLaw Try.prog 91 := slot.law
  have ht := Try.underlying74
  have hkey : keyOf Try.prog 91 (.agg #[.string x.s, .int .i64 x.p]) = some (slotKey.lit x) := slotKey.key (x := x) trivial
  have hstore := fun c => GM.store (κ := slotKey) h ht x trivial c hN
  have hg := h
  obtain ⟨D, ⟨es, clock, hb, F, -⟩, -⟩ := h
  obtain ⟨v0, st, es1, clock1, hm, -, hs⟩ := entry_then_store K ht cn.zero_int hb F hkey
  have hb1 : (setBlock w b (.map es1 clock1)).heap[b]? = some (.map es1 clock1) := by
    have hlt := (Array.getElem?_eq_some_iff.1 hb).1
    simp [setBlock, hlt]
  have hlast : ∀ c, ∃ w2 N2, (Instr.entryStore 74 (.map (some b)) (.int .i64 st) c).run Try.prog (setBlock w b (.map es1 clock1)) = .ok () w2 ∧ GM slotKey w2 b N2 (gput g x c) ∧ N2 ≤ N + 1 ∧ Chg w w2 (fun k => k = b) := fun c => by
    obtain ⟨es', clock', h1, h2⟩ := hs _ c hb1
    obtain ⟨w', hrun, hgm, hc, -⟩ := hstore c
    have e : w' = setBlock w b (.map es' clock') := by
      have : Result.ok () w' = Result.ok () (setBlock w b (.map es' clock')) := hrun.symm.trans h2
      injection this
    rw [cn.setBlock_two] at h1
    refine ⟨_, _, h1, by rw [← e]; exact hgm, by split <;> omega, cn.setBlock_chg _ _ _⟩
  rcases K.find w hkey es.toList F.keys with ⟨h1, h2⟩ | ⟨j, e0, h1, h2, h3⟩
  · have hm' : (Instr.mapEntry 74 (.map (some b)) (.agg #[.string x.s, .int .i64 x.p])).run Try.prog w = .ok (.tuple #[.int .i64 0, goInt clock]) (setBlock w b (.map (es.push ⟨.agg #[.string x.s, .int .i64 x.p], .int .i64 0, clock⟩) (clock + 1))) := by
      simp [Instr.mapEntry, run_underlying ht, MapKept.run_getObj_map hb, K.check w false hkey, h1, MapKept.run_setObj_map _ hb, Result.andThen, setBlock]
    have hup : (Instr.mapUpdate 74 (.map (some b)) (.agg #[.string x.s, .int .i64 x.p]) (.int .i64 0)).run Try.prog w = .ok () (setBlock w b (.map (es.push ⟨.agg #[.string x.s, .int .i64 x.p], .int .i64 0, clock⟩) (clock + 1))) := by
      simp [Instr.mapUpdate, run_underlying ht, MapKept.run_getObj_map hb, K.check w false hkey, h1, MapKept.run_setObj_map _ hb, Result.andThen, setBlock]
    have hl := GM.look1 hg ht (cn.zero_int w) x trivial
    have hl2 : (Instr.lookup 74 (.map (some b)) (.agg #[.string x.s, .int .i64 x.p]) false).run Try.prog w = .ok (.int .i64 0) w := by
      simp [Instr.lookup, run_underlying ht, MapKept.run_getObj_map hb, K.check w _ hkey, h1, Result.andThen]
    have hgz : (g x).getD (.int .i64 0) = .int .i64 0 := by
      have : Result.ok ((g x).getD (.int .i64 0)) w = Result.ok (.int .i64 0) w := hl.symm.trans hl2
      injection this
    obtain ⟨w', hrun, hgm, hc, -⟩ := hstore (.int .i64 0)
    have e : w' = setBlock w b (.map (es.push ⟨.agg #[.string x.s, .int .i64 x.p], .int .i64 0, clock⟩) (clock + 1)) := by
      have : Result.ok () w' = Result.ok () _ := hrun.symm.trans hup
      injection this
    have e2 : setBlock w b (.map es1 clock1) = w' := by
      have : Result.ok (Value.tuple #[v0, goInt st]) (setBlock w b (.map es1 clock1)) = Result.ok _ _ := hm.symm.trans hm'
      rw [e]
      injection this
    exact ⟨v0, st, _, _, _, hm, by rw [e2]; exact hgm, by rw [gput_same, hgz]; rfl, cn.setBlock_chg _ _ _, hlast⟩
  · have hj : es[j]? = some e0 := by simpa using h2
    have hsame : es.modify j (fun e => { e with key := .agg #[.string x.s, .int .i64 x.p] }) = es := by
      apply Array.ext_getElem?
      intro i
      rw [Array.getElem?_modify]
      by_cases hi : j = i
      · subst hi
        rw [if_pos rfl, hj, Option.map_some, ← h3]
      · rw [if_neg hi]
    have hw : setBlock w b (.map es clock) = w := by
      unfold setBlock
      have : w.heap.setIfInBounds b (.map es clock) = w.heap := by
        apply Array.ext_getElem?
        intro i
        rw [Array.getElem?_setIfInBounds]
        by_cases hi : b = i
        · subst hi
          rw [if_pos rfl]
          have hlt := (Array.getElem?_eq_some_iff.1 hb).1
          rw [if_pos hlt, hb]
        · rw [if_neg hi]
      rw [this]
    have hm' : (Instr.mapEntry 74 (.map (some b)) (.agg #[.string x.s, .int .i64 x.p])).run Try.prog w = .ok (.tuple #[e0.val, goInt e0.born]) (setBlock w b (.map es clock)) := by
      simp [Instr.mapEntry, run_underlying ht, MapKept.run_getObj_map hb, K.check w false hkey, h1, hj, h3, K.stays w hkey, hsame, MapKept.run_setObj_map _ hb, Result.andThen, setBlock]
    have e2 : setBlock w b (.map es1 clock1) = w := by
      have : Result.ok (Value.tuple #[v0, goInt st]) (setBlock w b (.map es1 clock1)) = Result.ok _ _ := hm.symm.trans hm'
      injection this with _ q
      exact q.trans hw
    exact ⟨v0, st, _, N, g, hm, by rw [e2]; exact hg, rfl, cn.setBlock_chg _ _ _, hlast⟩
end
section
open Go.RowKit Go.Maps
set_option maxRecDepth 100000

/-- The worlds in which the map says at x what it said. -/
def cn.Say (w : World) (b : Nat) (x : SlotK) (d : Int) : Type := {w0 : World // Chg w w0 (fun k => k = b) ∧ (Instr.lookup 74 (.map (some b)) (.agg #[.string x.s, .int .i64 x.p]) false).run Try.prog w0 = .ok (.int .i64 d) w0}
def cn.sentA (s : CSent) (A : Option Addr) (n c : Nat) : Array Value := #[.int .i64 4, .int .i64 s.corr, .string (ByteArray.mk #[]), .string s.topic, .int .i64 s.part, .int .i64 0, .int .i64 0, .int .i64 0, .string (ByteArray.mk #[]), .string (ByteArray.mk #[]), .int .i64 0, .slice none 0 0, .slice A n c, .int .i64 s.count]
open Classical in
noncomputable def cn.upd (D : SlotK → Int) (x : SlotK) (v : Int) : SlotK → Int := fun u => if u = x then v else D u
set_option maxHeartbeats 4000000 in
theorem cn.add_any (p : Nat) (id epoch corr : Int) (D : SlotK → Int) (F : Nat → Prop) (n : Nat) (s : CSent) (x : SlotK) (hx : s.topic = x.s ∧ s.part = x.p) (A : Option Addr) (m c : Nat) (w : World) (h : CnAt w p id epoch corr none D F n) (hn : n ≤ 1000000) (hD : 0 ≤ D x ∧ D x ≤ 1000000000) (hc : 0 ≤ s.count ∧ s.count ≤ 1000000) :
    Calls Try.prog 33 #[.pointer (some ⟨p, 0, none⟩), .agg (cn.sentA s A m c)] w fun e w' => e = .returned (.tuple #[]) ∧ CnAt w' p id epoch corr none (cn.upd D x (D x + s.count)) F (n + 1) ∧ Chg w w' F := by
  obtain ⟨w1, hw1⟩ : ∃ w1, w1 = w.alloc (.cells (cn.sentA s A m c) 83) := ⟨_, rfl⟩
  obtain ⟨g, hg⟩ : ∃ g, g = w.heap.size := ⟨_, rfl⟩
  have hc1 : Chg w w1 (fun _ => False) := by rw [hw1]; exact Chg.alloc _ _ _
  have hb1 : Blk w1 g 83 (cn.sentA s A m c) := by rw [hw1, hg]; exact Blk.new _ _ _
  have hltw := h.lt.2
  obtain ⟨uv, mb, N, gm, hblk, hgm, hDD, hN, hrow, hfoot, hlt⟩ := h.keep hc1 fun _ _ q => q
  have hmbg : g ≠ mb := fun e => by have := hltw mb hfoot.2.1; omega
  have hpmb : p ≠ mb := hgm.not_blk hblk
  obtain ⟨v0, st, w2, N1, g1, hme, hgm1, hg1, hcm, hst⟩ := cn.entry (show GM slotKey w1.drew mb N gm from hgm.drew 1) x (by unfold maxLen; omega)
  have hlook : ∀ (wx : World) (gx : SlotK → Option Value) (Nx : Nat), GM slotKey wx mb Nx gx → (gx x).getD (.int .i64 0) = (gm x).getD (.int .i64 0) → (Instr.lookup 74 (.map (some mb)) (.agg #[.string x.s, .int .i64 x.p]) false).run Try.prog wx = .ok (.int .i64 (D x)) wx := fun wx gx Nx hgx e => by
    have := GM.look1 hgx Try.underlying74 (cn.zero_int wx) x trivial
    rw [e, hDD] at this
    exact this
  have hS1 : ∃ y : cn.Say w1 mb x (D x), w1.drew = y.1 := ⟨⟨w1.drew, (Chg.refl _ _).drew, hlook _ gm N (hgm.drew 1) rfl⟩, rfl⟩
  have hS2 : ∃ y : cn.Say w1 mb x (D x), w2 = y.1 := ⟨⟨w2, ((Chg.refl w1 (fun k => k = mb)).drew).trans hcm fun _ _ q => q, hlook _ g1 N1 hgm1 hg1⟩, rfl⟩
  have hne : Nonempty (cn.Say w1 mb x (D x)) := hS1.elim fun y _ => ⟨y⟩
  have c4 := hblk.cell 4 rfl
  have l4 := hblk.lt
  obtain ⟨s1, s2⟩ := hx
  unfold cn.sentA at hw1 hb1 ⊢
  rw [s1, s2] at hw1 hb1 ⊢
  obtain ⟨w3, N3, hes, hgm3, hN3, hc3⟩ := hst (.int .i64 (D x + s.count))
  have q4 : ∀ y : cn.Say w1 mb x (D x), y.1.cell? ⟨p, 4, none⟩ = some (.map (some mb)) := fun y => cn.cellP y.2.1 c4 l4 hpmb
  have q0 : ∀ y : cn.Say w1 mb x (D x), y.1.cell? ⟨g, 3, none⟩ = some (.string x.s) := fun y => (y.2.1.blk hb1 hmbg).cell 3 rfl
  have q1 : ∀ y : cn.Say w1 mb x (D x), y.1.cell? ⟨g, 4, none⟩ = some (.int .i64 x.p) := fun y => (y.2.1.blk hb1 hmbg).cell 4 rfl
  have q2 : ∀ y : cn.Say w1 mb x (D x), y.1.cell? ⟨g, 13, none⟩ = some (.int .i64 s.count) := fun y => (y.2.1.blk hb1 hmbg).cell 13 rfl
  have q3 : ∀ y : cn.Say w1 mb x (D x), (Instr.lookup 74 (.map (some mb)) (.agg #[.string x.s, .int .i64 x.p]) false).run Try.prog y.1 = .ok (.int .i64 (D x)) y.1 := fun y => y.2.2
  have v2 : w1.drew.cell? ⟨g, 13, none⟩ = some (.int .i64 s.count) := hb1.cell 13 rfl
  have H1 := Lib.hid (And.intro hS1 (And.intro hS2 (And.intro hgm3 (And.intro hN3 (And.intro hw1 (And.intro hg hc3)))))); clear hS1 hS2 hst hlook hw1 hg hgm3 hN3 hc3
  have hmbu : ¬ uv.ownBlock = some mb := fun e => by
    rcases (show w1.ownsRow 0 83 14 uv 0 [] from hrow).2 with ⟨h1, -⟩ | ⟨k, cap, cur, h1, -, h4, -⟩
    · rw [h1] at e; cases e
    · rw [h1] at e
      obtain rfl : k = mb := by cases e; rfl
      exact hgm.not_blk (T := 83) h4 rfl
  have HB := Lib.hid (And.intro hmbu (And.intro hblk (And.intro hc1 (And.intro hDD (And.intro hN (And.intro hrow (And.intro hfoot (And.intro hlt hltw)))))))); clear hmbu hblk hc1 hDD hN hrow hfoot hlt hltw hb1 h hcm hgm1 hg1 hgm
  go_enter Try.func33, Try.ntmps33
  go_upto_region 1 with fail
  rw [← H1.out.2.2.2.2.1, ← H1.out.2.2.2.2.2.1]
  have hnil : (binOp .eql 74 (.map (some mb)) (.map none)).run Try.prog w1 = .ok (.bool false) w1 := eql_map_nil Try.underlying74 (some mb) w1
  go_upto_region 3 with fail
  clear hnil c4 l4
  refine wp_planz 17 (S := fun w0 => ∃ y : cn.Say w1 mb x (D x), w0 = y.1) (by kernel_rfl) H1.out.1 ?_
  intro hS' K5 hK5
  have HS := Lib.hid hS'; clear hS'
  refine planz_group [true, true, true, true, true, true, true, true, true, true, true, true, true] [0, 1, 2, 3, 4, 5, 6, 7, 8, 9, 10, 11, 12] 5 (by dsimp only [sel]) (by rfl) rfl (by kernel_rfl) (by kernel_rfl) (by kernel_rfl) HS.out ?_
  (repeat go_big_quiet_step (fail)); refine wpQuiet_nil ?_
  refine planz_one [false, false, false, false, false, false, false, false, false, false, false, false, false, true] 13 4 (by dsimp only [sel]) (by rfl) rfl (by kernel_rfl) ?_; intro K1 hK1; go_wp2_with fail
  refine ⟨by first | exact HS.out | exact fun _ => HS.out, ?_⟩
  clear v2
  refine planz_group [false, false, false, false, false, false, false, false, false, false, false, false, false, false, true] [14] 3 (by dsimp only [sel]) (by rfl) rfl (by kernel_rfl) (by kernel_rfl) (by kernel_rfl) HS.out ?_
  (repeat go_big_quiet_step (fail)); refine wpQuiet_nil ?_
  refine planz_one [false, false, false, false, false, false, false, false, false, false, false, false, false, false, false, true] 15 2 (by dsimp only [sel]) (by rfl) rfl (by kernel_rfl) ?_; intro K1 hK1; go_wp2_with fail
  refine ⟨by first | exact H1.out.2.1 | exact fun _ => H1.out.2.1, ?_⟩
  refine planz_group [false, false, false, false, false, false, false, false, false, false, false, false, false, false, false, false, true] [16] 1 (by dsimp only [sel]) (by rfl) rfl (by kernel_rfl) (by kernel_rfl) (by kernel_rfl) H1.out.2.1 ?_
  (repeat go_big_quiet_step (fail)); refine wpQuiet_nil ?_
  refine planz_one [false, false, false, false, false, false, false, false, false, false, false, false, false, false, false, false, false, true] 17 0 (by dsimp only [sel]) (by rfl) rfl (by kernel_rfl) ?_; intro K1 hK1; go_wp2_with fail
  first | (refine ⟨fun h => absurd rfl h, ?_⟩; refine wp_planz_end (by kernel_rfl) ?_) | refine wp_planz_end (by kernel_rfl) ?_ | refine ⟨by kernel_rfl, ?_⟩
  go_wp2_with fail
  go_end0
  obtain ⟨hmbu, hblk, hc1, hDD, hN, hrow, ⟨f1, f2, f3⟩, hlt, hltw⟩ := HB.out
  have hc13 : Chg w1 w3 (fun k => k = mb) := ((Chg.refl w1 (fun k => k = mb)).drew).trans H1.out.2.2.2.2.2.2 fun _ _ q => q
  refine ⟨rfl, ⟨uv, mb, N3, _, hc13.blk hblk hpmb, H1.out.2.2.1, fun u => ?_, by have := H1.out.2.2.2.1; omega, hc13.own hrow fun k hk e => hmbu (by rw [← show k = mb from e]; exact hk), ⟨f1, f2, f3⟩, fun k hk => Nat.lt_of_lt_of_le (hlt k hk) hc13.size⟩, (hc1.mono fun _ _ q => q.elim).trans hc13 fun k _ e => by rw [show k = mb from e]; exact f2⟩
  unfold cn.upd
  by_cases e : u = x
  · subst e
    rw [gput_same, if_pos rfl]
    rfl
  · rw [gput_other _ e, if_neg e]
    exact hDD u
end
section
open Go.RowKit Go.Maps
set_option maxRecDepth 100000

def cn.resp (rc code off : Int) (dv0 : Value) : Array Value := #[.int .i64 rc, .int .i64 code, .int .i64 off, .int .i64 0, .int .i64 0, .string (ByteArray.mk #[]), .string (ByteArray.mk #[]), .slice none 0 0, .slice none 0 0, dv0]
/-- The cells of what is under way. -/
theorem cn.row_cells {w : World} {A : Option Addr} {c : Nat} {s : CSent} {Ad : Option Addr} {m cd : Nat} (h : w.ownsRow 0 83 14 (.slice A 1 c) 1 (cn.sent s (.slice Ad m cd))) :
    ∃ g, A = some ⟨g, 0, none⟩ ∧ g < w.heap.size ∧ ∀ (j : Nat) (v : Value), (cn.sentA s Ad m cd)[j]? = some v → w.cell? ⟨g, j, none⟩ = some v := by
  obtain ⟨g, hg⟩ : ∃ g, A = some ⟨g, 0, none⟩ := by
    rcases h.2 with ⟨h1, -⟩ | ⟨g, cap, cur, h1, -⟩
    · cases h1
    · exact ⟨g, by injection h1⟩
  subst hg
  refine ⟨g, rfl, (h.lt g rfl).2, fun j v hj => ?_⟩
  have := h.cells (g := g) rfl j v (by
    rw [← hj]
    unfold cn.sent cn.req cn.sentA
    simp)
  rw [add_none, Nat.zero_add] at this
  exact this
set_option maxHeartbeats 8000000 in
theorem cn.done_ok (p : Nat) (id epoch corr : Int) (s : CSent) (D : SlotK → Int) (F : Nat → Prop) (n : Nat) (x : SlotK) (hx : s.topic = x.s ∧ s.part = x.p) (off : Int) (A0 : Option Addr) (m0 c0 : Nat) (w : World) (h : CnAt w p id epoch corr (some s) D F n) (hn : n ≤ 1000000) (hD : 0 ≤ D x ∧ D x ≤ 1000000000) (hc : 0 ≤ s.count ∧ s.count ≤ 1000000) :
    Calls Try.prog 15 #[.pointer (some ⟨p, 0, none⟩), .agg (cn.resp s.corr 0 off (.slice A0 m0 c0))] w fun e w' => e = .returned (.tuple #[.int .i64 off, .int .i64 0]) ∧ CnAt w' p id epoch corr none (cn.upd D x (D x + s.count)) F (n + 1) ∧ Chg w w' F := by
  obtain ⟨w1, hw1⟩ : ∃ w1, w1 = w.alloc (.cells (cn.resp s.corr 0 off (.slice A0 m0 c0)) 53) := ⟨_, rfl⟩
  obtain ⟨g, hg⟩ : ∃ g, g = w.heap.size := ⟨_, rfl⟩
  have hltw := h.lt.2
  have hc1 : Chg w w1 (fun _ => False) := by rw [hw1]; exact Chg.alloc _ _ _
  have hr1 : Blk w1 g 53 (cn.resp s.corr 0 off (.slice A0 m0 c0)) := by rw [hw1, hg]; exact Blk.new _ _ _
  have hcn1 := h.keep hc1 fun _ _ q => q
  obtain ⟨uv, mb, N, gm, hblk, hgm, hDD, hN, ⟨dv, hrow, hdat, hdF⟩, hfoot, hlt⟩ := hcn1
  obtain ⟨Ad, cd, rfl, -, -⟩ := own_at hdat
  obtain ⟨m, hm⟩ : ∃ m, m = s.data.length := ⟨_, rfl⟩
  rw [← hm] at hrow hdat
  obtain ⟨Au, cu, rfl, -, -⟩ := own_at hrow
  obtain ⟨gu, rfl, hgu, hcel⟩ := cn.row_cells hrow
  unfold cn.sentA at hcel
  have e0 := hcel 0 _ rfl
  have e1 := hcel 1 _ rfl
  have e2 := hcel 2 _ rfl
  have e3 := hcel 3 _ rfl
  have e4 := hcel 4 _ rfl
  have e5 := hcel 5 _ rfl
  have e6 := hcel 6 _ rfl
  have e7 := hcel 7 _ rfl
  have e8 := hcel 8 _ rfl
  have e9 := hcel 9 _ rfl
  have e10 := hcel 10 _ rfl
  have e11 := hcel 11 _ rfl
  have e12 := hcel 12 _ rfl
  have e13 := hcel 13 _ rfl
  have c3 := hblk.cell 3 rfl
  have l3 := hblk.lt
  have k0 := hr1.cell 0 (v := .int .i64 s.corr) rfl
  have k1 := hr1.cell 1 (v := .int .i64 0) rfl
  have k2 := hr1.cell 2 (v := .int .i64 off) rfl
  have kl := hr1.lt
  unfold cn.resp at hw1 ⊢
  have H1 := Lib.hid (And.intro hc1 (And.intro hr1 (And.intro hblk (And.intro hgm (And.intro hDD (And.intro hN (And.intro hrow (And.intro hdat (And.intro hfoot (And.intro hlt (And.intro hltw (And.intro hw1 hg)))))))))))); clear hc1 hr1 hblk hgm hDD hN hrow hdat hdF hfoot hlt hltw hw1 hg hcel h
  have HM := Lib.hid hm; clear hm
  have HX := Lib.hid (And.intro hx (And.intro hn (And.intro hD hc))); clear hx hn hD hc
  go_enter Try.func15, Try.ntmps15
  go_upto_region 1 with fail
  rw [← H1.out.2.2.2.2.2.2.2.2.2.2.2.1, ← H1.out.2.2.2.2.2.2.2.2.2.2.2.2]
  go_upto_region 4 with fail
  go_loopw [16] (fun i wx => i = .int .i64 0 ∧ wx = w1) (fun i _ => 1 - (intOf i).toNat)
  case atStart => exact ⟨rfl, rfl⟩
  case round =>
    obtain ⟨rfl, rfl⟩ := hrel
    go_upto_region 6 with fail
    clear e0 e1 e2 e3 e4 e5 e6 e7 e8 e9 e10 e11 e12 e13 c3 l3 k0 k1 k2 kl
    obtain ⟨g2, hg2⟩ : ∃ g2, g2 = wr.heap.size := ⟨_, rfl⟩
    obtain ⟨w2, hw2⟩ : ∃ w2, w2 = wr.alloc (.cells #[.int .i64 4, .int .i64 s.corr, .string (ByteArray.mk #[]), .string s.topic, .int .i64 s.part, .int .i64 0, .int .i64 0, .int .i64 0, .string (ByteArray.mk #[]), .string (ByteArray.mk #[]), .int .i64 0, .slice none 0 0, .slice Ad m cd, .int .i64 s.count] 83) := ⟨_, rfl⟩
    rw [← hw2, ← hg2]
    obtain ⟨hc1, hr1, hblk, hgm, hDD, hN, hrow, hdat, ⟨f1, f2, f3⟩, hlt, hltw, hw1, hg⟩ := H1.out
    have hb2 : Blk w2 g2 83 #[.int .i64 4, .int .i64 s.corr, .string (ByteArray.mk #[]), .string s.topic, .int .i64 s.part, .int .i64 0, .int .i64 0, .int .i64 0, .string (ByteArray.mk #[]), .string (ByteArray.mk #[]), .int .i64 0, .slice none 0 0, .slice Ad m cd, .int .i64 s.count] := by rw [hw2, hg2]; exact Blk.new _ _ _
    have hc2 : Chg wr w2 (fun _ => False) := by rw [hw2]; exact Chg.alloc _ _ _
    have hr2 := hc2.blk hr1 fun q => q
    have hrow2 := hc2.own hrow fun _ _ q => q
    have hp2 := hc2.blk hblk fun q => q
    have hgl := hr1.lt
    have hFg : ∀ k, F k → k < g := fun k hk => by have := hltw k hk; omega
    have hguF : F gu := f3 gu rfl
    have hgg2 : g < g2 := by omega
    have hdel := cn.delete_any gu cu _ w2 hrow2
    have hag := cn.again_any 0 w2
    have k0 := hr2.cell 0 (v := .int .i64 s.corr) rfl
    have k1 := hr2.cell 1 (v := .int .i64 0) rfl
    have kl := hr2.lt
    have e1 := hb2.cell 1 rfl
    have el := hb2.lt
    have c3 := hp2.cell 3 rfl
    have l3 := hp2.lt
    have H2 := Lib.hid (And.intro hb2 (And.intro hc2 (And.intro hr2 (And.intro hrow2 (And.intro hp2 (And.intro hFg (And.intro hguF (And.intro hgg2 (And.intro hdel (And.intro hag (And.intro f1 f2))))))))))); clear hb2 hc2 hr2 hrow2 hp2 hFg hguF hgg2 hdel hag f1 f2 f3 hc1 hr1 hblk hgm hDD hN hrow hdat hlt hltw hw1 hg hgl hw2 hg2
    go_upto_region 11 with (first
      | (go_at_call 32; refine H2.out.2.2.2.2.2.2.2.2.1.mono ?_; rintro e w3 ⟨rfl, h1, h2⟩; have hp3 := h2.blk H2.out.2.2.2.2.1 (fun e => by have h9 := H2.out.2.2.2.2.1.not_row (by decide) H2.out.2.2.2.1; exact h9 (by rw [show p = gu from e]; rfl)); have n3 := hp3.cell 3 rfl; have z3 := hp3.frozen 3; have zl := hp3.lt; have H3 := Lib.hid (And.intro h1 (And.intro h2 hp3)); clear h1 h2 hp3)
      | (go_at_call 31; refine H2.out.2.2.2.2.2.2.2.2.2.1.mono ?_; rintro e w2' ⟨rfl, h3⟩; subst h3))
    clear n3 z3 zl k0 k1 kl e1 el c3 l3
    obtain ⟨w4, hw4⟩ : ∃ w4, w4 = w3.setCell ⟨p, 3, none⟩ (.slice (some ⟨gu, 0, none⟩) 0 cu) := ⟨_, rfl⟩
    rw [← hw4]
    obtain ⟨hc1, hr1, hblk, hgm, hDD, hN, hrow, hdat, ⟨f1, f2, f3⟩, hlt, hltw, hw1, hg⟩ := H1.out
    have hp4 : Blk w4 p 77 #[.int .i64 id, .int .i64 epoch, .int .i64 corr, .slice (some ⟨gu, 0, none⟩) 0 cu, .map (some mb)] := by rw [hw4]; exact H3.out.2.2.set 3 _
    have hc34 : Chg w3 w4 (fun k => k = p) := by rw [hw4]; exact Chg.setCell _ _ _ _
    have hc24 : Chg w2 w4 (fun k => k = gu ∨ k = p) := (H3.out.2.1.mono fun _ _ q => .inl q).trans hc34 fun _ _ q => .inr q
    have hpmb : p ≠ mb := hgm.not_blk hblk
    have hmbu : mb ≠ gu := fun e => by
      rcases hrow.2 with ⟨h1, -⟩ | ⟨k, cap, cur, h1, -, h4, -⟩
      · cases h1
      · obtain rfl : gu = k := by injection h1 with h1; injection h1 with h1; injection h1
        exact hgm.not_blk (T := 83) h4 e.symm
    have hrow4 := hc34.own H3.out.1 fun k hk e => by
      obtain rfl : gu = k := by cases hk; rfl
      exact hblk.not_row (by decide) hrow (by rw [← show gu = p from e]; rfl)
    have hcn4 : CnAt w4 p id epoch corr none D F n := ⟨.slice (some ⟨gu, 0, none⟩) 0 cu, mb, N, gm, hp4, (hgm.chg H2.out.2.1 fun q => q).chg hc24 fun q => q.elim hmbu fun e => hpmb e.symm, hDD, hN, hrow4, ⟨f1, f2, fun k hk => by cases hk; exact H2.out.2.2.2.2.2.2.1⟩, fun k hk => Nat.lt_of_lt_of_le (hlt k hk) (Nat.le_trans H2.out.2.1.size hc24.size)⟩
    have hF2 : ∀ k, k = gu ∨ k = p → F k := fun k q => q.elim (fun e => by rw [e]; exact H2.out.2.2.2.2.2.2.1) fun e => by rw [e]; exact f1
    have hg2F : ¬ F g2 := fun q => by have h1 := H2.out.2.2.2.2.2.1 _ q; have h2 := H2.out.2.2.2.2.2.2.2.1; omega
    have hgF : ¬ F g := fun q => Nat.lt_irrefl _ (H2.out.2.2.2.2.2.1 _ q)
    have hb4 := hc24.blk H2.out.1 fun q => hg2F (hF2 _ q)
    have hr4 := hc24.blk H2.out.2.2.1 fun q => hgF (hF2 _ q)
    have hadd := cn.add_any p id epoch corr D F n s x HX.out.1 Ad m cd w4 hcn4 HX.out.2.1 HX.out.2.2.1 HX.out.2.2.2
    unfold cn.sentA at hadd
    have hc04 : Chg w w4 F := ((hc1.mono fun _ _ q => q.elim).trans H2.out.2.1 fun _ _ q => q.elim).trans hc24 fun k _ q => hF2 k q
    have e0 := hb4.cell 0 rfl
    have e1 := hb4.cell 1 rfl
    have e2 := hb4.cell 2 rfl
    have e3 := hb4.cell 3 rfl
    have e4 := hb4.cell 4 rfl
    have e5 := hb4.cell 5 rfl
    have e6 := hb4.cell 6 rfl
    have e7 := hb4.cell 7 rfl
    have e8 := hb4.cell 8 rfl
    have e9 := hb4.cell 9 rfl
    have e10 := hb4.cell 10 rfl
    have e11 := hb4.cell 11 rfl
    have e12 := hb4.cell 12 rfl
    have e13 := hb4.cell 13 rfl
    have el := hb4.lt
    have H4 := Lib.hid (And.intro hadd (And.intro hr4 (And.intro hgF hc04))); clear hadd hr4 hgF hc04 hc1 hr1 hblk hgm hDD hN hrow hdat f1 f2 f3 hlt hltw hw1 hg hb4 hg2F hF2 hcn4 hrow4 hmbu hpmb hc24 hc34 hp4 hw4
    go_upto_region 14 with (go_at_call 33; refine H4.out.1.mono ?_; rintro e w5 ⟨rfl, h1, h2⟩; have hr5 := h2.blk H4.out.2.1 H4.out.2.2.1; have k2 := hr5.cell 2 (v := .int .i64 off) rfl; have kl := hr5.lt; have H5 := Lib.hid (And.intro h1 (H4.out.2.2.2.trans h2 fun _ _ q => q)); clear h1 h2 hr5)
    clear e0 e1 e2 e3 e4 e5 e6 e7 e8 e9 e10 e11 e12 e13 el
    go_wp2_with fail
    go_ret2
    exact ⟨rfl, H5.out.1, H5.out.2⟩
end
section
open Go.RowKit Go.Maps
set_option maxRecDepth 100000

set_option maxHeartbeats 2000000 in
theorem cn.retry_none (p : Nat) (id epoch corr : Int) (D : SlotK → Int) (F : Nat → Prop) (n : Nat) (w : World) (h : CnAt w p id epoch corr none D F n) :
    Calls Try.prog 16 #[.pointer (some ⟨p, 0, none⟩)] w fun e w' => e = .returned (.tuple #[.agg cn.zero, .bool false]) ∧ Below w.heap.size w w' := by
  have hw := h.below ((Below.refl w.heap.size w).alloc (Nat.le_refl _) (.cells cn.zero 35))
  obtain ⟨uv, mb, N, g, h1, -, -, -, h5, -⟩ := hw
  obtain ⟨Au, cu, rfl, -, -⟩ := own_at (show World.ownsRow _ 0 83 14 uv 0 [] from h5)
  have c3 := h1.cell 3 rfl
  have l3 := h1.lt
  unfold cn.zero at c3 l3
  clear h1 h5 h
  go_enter Try.func16, Try.ntmps16
  go_wp2_with fail
  refine bodyPost_ret (cn.res_cell2 rfl _ _ w.heap.size cn.zero _ rfl (Blk.new w 35 cn.zero) Try.underlying35 rfl cn.infoReq) rfl ?_
  exact ⟨rfl, (Below.refl _ _).alloc (Nat.le_refl _) _⟩
set_option maxHeartbeats 4000000 in
theorem cn.retry_some (p : Nat) (id epoch corr : Int) (s : CSent) (D : SlotK → Int) (F : Nat → Prop) (n : Nat) (w : World) (h : CnAt w p id epoch corr (some s) D F n) (hm6 : s.data.length ≤ 65536) :
    Calls Try.prog 16 #[.pointer (some ⟨p, 0, none⟩)] w fun e w' => ∃ A2 c2, e = .returned (.tuple #[.agg (cn.req s.corr s.topic s.part (.slice A2 s.data.length c2)), .bool true]) ∧
      w'.ownsRow w.heap.size 5 1 (.slice A2 s.data.length c2) s.data.length (u8s s.data) ∧ Below w.heap.size w w' := by
  obtain ⟨w1, hw1⟩ : ∃ w1, w1 = w.alloc (.cells cn.zero 35) := ⟨_, rfl⟩
  obtain ⟨g, hg⟩ : ∃ g, g = w.heap.size := ⟨_, rfl⟩
  have hb1 : Below g w w1 := by rw [hw1, hg]; exact (Below.refl _ _).alloc (Nat.le_refl _) _
  have hz1 : Blk w1 g 35 cn.zero := by rw [hw1, hg]; exact Blk.new _ _ _
  obtain ⟨uv, mb, N, gm, hblk, -, -, -, ⟨dv, hrow, hdat, -⟩, -⟩ := h.below (by rw [← hg]; exact hb1)
  obtain ⟨m, hm⟩ : ∃ m, m = s.data.length := ⟨_, rfl⟩
  obtain ⟨Ad, cd, rfl, -, -⟩ := own_at hdat
  obtain ⟨A9, c9, e9, -, -, hat⟩ := own_bytes hdat
  obtain ⟨rfl, rfl⟩ : Ad = A9 ∧ cd = c9 := by injection e9 with e1 e2 e3; exact ⟨e1, e3⟩
  clear e9
  have hcopy := cn.copy_any s.corr s.topic s.part Ad cd s.data w1 (by omega) hat
  rw [← hm] at hcopy hrow hdat ⊢
  obtain ⟨Au, cu, rfl, -, -⟩ := own_at hrow
  obtain ⟨gu, rfl, hgu, hcel⟩ := cn.row_cells hrow
  unfold cn.sentA at hcel
  have e0 := hcel 0 _ rfl
  have e1 := hcel 1 _ rfl
  have e2 := hcel 2 _ rfl
  have e3 := hcel 3 _ rfl
  have e4 := hcel 4 _ rfl
  have e5 := hcel 5 _ rfl
  have e6 := hcel 6 _ rfl
  have e7 := hcel 7 _ rfl
  have e8 := hcel 8 _ rfl
  have e9 := hcel 9 _ rfl
  have e10 := hcel 10 _ rfl
  have e11 := hcel 11 _ rfl
  have e12 := hcel 12 _ rfl
  have c3 := hblk.cell 3 rfl
  have l3 := hblk.lt
  unfold cn.zero at hw1
  have H1 := Lib.hid (And.intro hb1 (And.intro hz1 (And.intro hcopy (And.intro hw1 hg)))); clear hb1 hz1 hcopy hw1 hg hblk hrow hdat hat hcel h
  clear hm hm6
  go_enter Try.func16, Try.ntmps16
  go_upto_region 1 with fail
  rw [← H1.out.2.2.2.1, ← H1.out.2.2.2.2]
  go_upto_region 3 with fail
  go_wp2_with (first
    | (refine wpList_store_row rfl 35 (.tmp 2) (.tmp 22) rfl g #[.int .i64 4, .int .i64 s.corr, .string (ByteArray.mk #[]), .string s.topic, .int .i64 s.part, .int .i64 0, .int .i64 0, .int .i64 0, .string (ByteArray.mk #[]), .string (ByteArray.mk #[]), .int .i64 0, .slice none 0 0, .slice A2 m c2] rfl rfl 35 _ H2.out.2.2 cn.infoReq rfl (by simp [Value.oneCell']) ?_)
    | (go_at_call 28; refine H1.out.2.2.1.mono ?_; rintro e w2 ⟨A2, c2, rfl, h1, h2⟩; unfold cn.req; have hz2 := (chg_of (P := fun _ => False) h2).blk H1.out.2.1 fun q => q; have H2 := Lib.hid (And.intro h1 (And.intro h2 hz2)); clear h1 h2 hz2))
  have hz3 := cn.blk_row H2.out.2.2 #[.int .i64 4, .int .i64 s.corr, .string (ByteArray.mk #[]), .string s.topic, .int .i64 s.part, .int .i64 0, .int .i64 0, .int .i64 0, .string (ByteArray.mk #[]), .string (ByteArray.mk #[]), .int .i64 0, .slice none 0 0, .slice A2 m c2]
  have hc3 := cn.chg_row w2 g #[.int .i64 4, .int .i64 s.corr, .string (ByteArray.mk #[]), .string s.topic, .int .i64 s.part, .int .i64 0, .int .i64 0, .int .i64 0, .string (ByteArray.mk #[]), .string (ByteArray.mk #[]), .int .i64 0, .slice none 0 0, .slice A2 m c2]
  generalize w2.setRow g #[.int .i64 4, .int .i64 s.corr, .string (ByteArray.mk #[]), .string s.topic, .int .i64 s.part, .int .i64 0, .int .i64 0, .int .i64 0, .string (ByteArray.mk #[]), .string (ByteArray.mk #[]), .int .i64 0, .slice none 0 0, .slice A2 m c2] = w3 at *
  refine bodyPost_ret (cn.res_cell2 rfl _ _ _ _ _ rfl hz3 Try.underlying35 rfl cn.infoReq) rfl ?_
  have hg := H1.out.2.2.2.2
  have hs1 := H1.out.2.1.lt
  refine ⟨A2, c2, rfl, ownsRow_base (hc3.own H2.out.1 fun k hk e => by have h1 := (H2.out.1.lt k hk).1; have e : k = g := e; omega) (by omega), ?_⟩
  rw [← hg]
  exact (H1.out.1.trans (H2.out.2.1.mono (by omega))).trans (hc3.below (by have := H2.out.2.1.size; omega) fun k hk => by have hk : k = g := hk; omega)
end
section
open Go.RowKit Go.Maps
set_option maxRecDepth 100000

set_option maxHeartbeats 8000000 in
theorem cn.done_again (p : Nat) (id epoch corr : Int) (s : CSent) (D : SlotK → Int) (F : Nat → Prop) (n : Nat) (off : Int) (A0 : Option Addr) (m0 c0 : Nat) (w : World) (h : CnAt w p id epoch corr (some s) D F n) (code : Int) (hcode : code = 7 ∨ code = 15 ∨ code = 4) :
    Calls Try.prog 15 #[.pointer (some ⟨p, 0, none⟩), .agg (cn.resp s.corr code off (.slice A0 m0 c0))] w fun e w' => e = .returned (.tuple #[.int .i64 0, .int .i64 code]) ∧ Below w.heap.size w w' := by
  obtain ⟨w1, hw1⟩ : ∃ w1, w1 = w.alloc (.cells (cn.resp s.corr code off (.slice A0 m0 c0)) 53) := ⟨_, rfl⟩
  obtain ⟨g, hg⟩ : ∃ g, g = w.heap.size := ⟨_, rfl⟩
  have hltw := h.lt.2
  have hc1 : Chg w w1 (fun _ => False) := by rw [hw1]; exact Chg.alloc _ _ _
  have hr1 : Blk w1 g 53 (cn.resp s.corr code off (.slice A0 m0 c0)) := by rw [hw1, hg]; exact Blk.new _ _ _
  have hcn1 := h.keep hc1 fun _ _ q => q
  obtain ⟨uv, mb, N, gm, hblk, hgm, hDD, hN, ⟨dv, hrow, hdat, hdF⟩, hfoot, hlt⟩ := hcn1
  obtain ⟨Ad, cd, rfl, -, -⟩ := own_at hdat
  obtain ⟨m, hm⟩ : ∃ m, m = s.data.length := ⟨_, rfl⟩
  rw [← hm] at hrow hdat
  obtain ⟨Au, cu, rfl, -, -⟩ := own_at hrow
  obtain ⟨gu, rfl, hgu, hcel⟩ := cn.row_cells hrow
  unfold cn.sentA at hcel
  have e0 := hcel 0 _ rfl
  have e1 := hcel 1 _ rfl
  have e2 := hcel 2 _ rfl
  have e3 := hcel 3 _ rfl
  have e4 := hcel 4 _ rfl
  have e5 := hcel 5 _ rfl
  have e6 := hcel 6 _ rfl
  have e7 := hcel 7 _ rfl
  have e8 := hcel 8 _ rfl
  have e9 := hcel 9 _ rfl
  have e10 := hcel 10 _ rfl
  have e11 := hcel 11 _ rfl
  have e12 := hcel 12 _ rfl
  have e13 := hcel 13 _ rfl
  have c3 := hblk.cell 3 rfl
  have l3 := hblk.lt
  have k0 := hr1.cell 0 (v := .int .i64 s.corr) rfl
  have k1 := hr1.cell 1 (v := .int .i64 code) rfl
  have k2 := hr1.cell 2 (v := .int .i64 off) rfl
  have kl := hr1.lt
  unfold cn.resp at hw1 ⊢
  have H1 := Lib.hid (And.intro hc1 (And.intro hr1 (And.intro hblk (And.intro hgm (And.intro hDD (And.intro hN (And.intro hrow (And.intro hdat (And.intro hfoot (And.intro hlt (And.intro hltw (And.intro hw1 hg)))))))))))); clear hc1 hr1 hblk hgm hDD hN hrow hdat hdF hfoot hlt hltw hw1 hg hcel h
  have HM := Lib.hid hm; clear hm
  have hag := fun wx => cn.again_any code wx
  have hdc : decide (code = 7 ∨ code = 15 ∨ code = 4) = true := decide_eq_true hcode
  rw [hdc] at hag
  have HAG := Lib.hid hag; clear hag hcode hdc
  go_enter Try.func15, Try.ntmps15
  go_upto_region 1 with fail
  rw [← H1.out.2.2.2.2.2.2.2.2.2.2.2.1, ← H1.out.2.2.2.2.2.2.2.2.2.2.2.2]
  go_upto_region 4 with fail
  go_loopw [16] (fun i wx => i = .int .i64 0 ∧ wx = w1) (fun i _ => 1 - (intOf i).toNat)
  case atStart => exact ⟨rfl, rfl⟩
  case round =>
    obtain ⟨rfl, rfl⟩ := hrel
    go_upto_region 6 with fail
    clear e0 e1 e2 e3 e4 e5 e6 e7 e8 e9 e10 e11 e12 e13 c3 l3 k0 k1 k2 kl
    obtain ⟨g2, hg2⟩ : ∃ g2, g2 = wr.heap.size := ⟨_, rfl⟩
    obtain ⟨w2, hw2⟩ : ∃ w2, w2 = wr.alloc (.cells #[.int .i64 4, .int .i64 s.corr, .string (ByteArray.mk #[]), .string s.topic, .int .i64 s.part, .int .i64 0, .int .i64 0, .int .i64 0, .string (ByteArray.mk #[]), .string (ByteArray.mk #[]), .int .i64 0, .slice none 0 0, .slice Ad m cd, .int .i64 s.count] 83) := ⟨_, rfl⟩
    rw [← hw2, ← hg2]
    obtain ⟨hc1, hr1, hblk, hgm, hDD, hN, hrow, hdat, ⟨f1, f2, f3⟩, hlt, hltw, hw1, hg⟩ := H1.out
    have hb2 : Blk w2 g2 83 #[.int .i64 4, .int .i64 s.corr, .string (ByteArray.mk #[]), .string s.topic, .int .i64 s.part, .int .i64 0, .int .i64 0, .int .i64 0, .string (ByteArray.mk #[]), .string (ByteArray.mk #[]), .int .i64 0, .slice none 0 0, .slice Ad m cd, .int .i64 s.count] := by rw [hw2, hg2]; exact Blk.new _ _ _
    have hc2 : Chg wr w2 (fun _ => False) := by rw [hw2]; exact Chg.alloc _ _ _
    have hr2 := hc2.blk hr1 fun q => q
    have k0 := hr2.cell 0 (v := .int .i64 s.corr) rfl
    have k1 := hr2.cell 1 (v := .int .i64 code) rfl
    have kl := hr2.lt
    have e1 := hb2.cell 1 rfl
    have el := hb2.lt
    have H2 := Lib.hid (hc1.trans hc2 fun _ _ q => q); clear hb2 hc2 hr2 f1 f2 f3 hc1 hr1 hblk hgm hDD hN hrow hdat hlt hltw hw1 hg hw2 hg2
    go_wp2_with (go_at_call 31; refine (HAG.out w2).mono ?_; rintro e w2' ⟨rfl, h3⟩; subst h3)
    go_ret2
    exact ⟨rfl, H2.out.below (Nat.le_refl _) fun _ q => q.elim⟩
set_option maxHeartbeats 8000000 in
theorem cn.done_bad (p : Nat) (id epoch corr : Int) (s : CSent) (D : SlotK → Int) (F : Nat → Prop) (n : Nat) (off : Int) (A0 : Option Addr) (m0 c0 : Nat) (w : World) (h : CnAt w p id epoch corr (some s) D F n) (code : Int) (hcode : ¬ (code = 7 ∨ code = 15 ∨ code = 4)) (hc0 : code ≠ 0) :
    Calls Try.prog 15 #[.pointer (some ⟨p, 0, none⟩), .agg (cn.resp s.corr code off (.slice A0 m0 c0))] w fun e w' => e = .returned (.tuple #[.int .i64 0, .int .i64 code]) ∧ CnAt w' p id epoch corr none D F n ∧ Chg w w' F := by
  obtain ⟨w1, hw1⟩ : ∃ w1, w1 = w.alloc (.cells (cn.resp s.corr code off (.slice A0 m0 c0)) 53) := ⟨_, rfl⟩
  obtain ⟨g, hg⟩ : ∃ g, g = w.heap.size := ⟨_, rfl⟩
  have hltw := h.lt.2
  have hc1 : Chg w w1 (fun _ => False) := by rw [hw1]; exact Chg.alloc _ _ _
  have hr1 : Blk w1 g 53 (cn.resp s.corr code off (.slice A0 m0 c0)) := by rw [hw1, hg]; exact Blk.new _ _ _
  have hcn1 := h.keep hc1 fun _ _ q => q
  obtain ⟨uv, mb, N, gm, hblk, hgm, hDD, hN, ⟨dv, hrow, hdat, hdF⟩, hfoot, hlt⟩ := hcn1
  obtain ⟨Ad, cd, rfl, -, -⟩ := own_at hdat
  obtain ⟨m, hm⟩ : ∃ m, m = s.data.length := ⟨_, rfl⟩
  rw [← hm] at hrow hdat
  obtain ⟨Au, cu, rfl, -, -⟩ := own_at hrow
  obtain ⟨gu, rfl, hgu, hcel⟩ := cn.row_cells hrow
  unfold cn.sentA at hcel
  have e0 := hcel 0 _ rfl
  have e1 := hcel 1 _ rfl
  have e2 := hcel 2 _ rfl
  have e3 := hcel 3 _ rfl
  have e4 := hcel 4 _ rfl
  have e5 := hcel 5 _ rfl
  have e6 := hcel 6 _ rfl
  have e7 := hcel 7 _ rfl
  have e8 := hcel 8 _ rfl
  have e9 := hcel 9 _ rfl
  have e10 := hcel 10 _ rfl
  have e11 := hcel 11 _ rfl
  have e12 := hcel 12 _ rfl
  have e13 := hcel 13 _ rfl
  have c3 := hblk.cell 3 rfl
  have l3 := hblk.lt
  have k0 := hr1.cell 0 (v := .int .i64 s.corr) rfl
  have k1 := hr1.cell 1 (v := .int .i64 code) rfl
  have k2 := hr1.cell 2 (v := .int .i64 off) rfl
  have kl := hr1.lt
  unfold cn.resp at hw1 ⊢
  have H1 := Lib.hid (And.intro hc1 (And.intro hr1 (And.intro hblk (And.intro hgm (And.intro hDD (And.intro hN (And.intro hrow (And.intro hdat (And.intro hfoot (And.intro hlt (And.intro hltw (And.intro hw1 hg)))))))))))); clear hc1 hr1 hblk hgm hDD hN hrow hdat hdF hfoot hlt hltw hw1 hg hcel h
  have HM := Lib.hid hm; clear hm
  have hag := fun wx => cn.again_any code wx
  have hdc : decide (code = 7 ∨ code = 15 ∨ code = 4) = false := decide_eq_false hcode
  rw [hdc] at hag
  have HAG := Lib.hid hag; clear hag hcode hdc
  go_enter Try.func15, Try.ntmps15
  go_upto_region 1 with fail
  rw [← H1.out.2.2.2.2.2.2.2.2.2.2.2.1, ← H1.out.2.2.2.2.2.2.2.2.2.2.2.2]
  go_upto_region 4 with fail
  go_loopw [16] (fun i wx => i = .int .i64 0 ∧ wx = w1) (fun i _ => 1 - (intOf i).toNat)
  case atStart => exact ⟨rfl, rfl⟩
  case round =>
    obtain ⟨rfl, rfl⟩ := hrel
    go_upto_region 6 with fail
    clear e0 e1 e2 e3 e4 e5 e6 e7 e8 e9 e10 e11 e12 e13 c3 l3 k0 k1 k2 kl
    obtain ⟨g2, hg2⟩ : ∃ g2, g2 = wr.heap.size := ⟨_, rfl⟩
    obtain ⟨w2, hw2⟩ : ∃ w2, w2 = wr.alloc (.cells #[.int .i64 4, .int .i64 s.corr, .string (ByteArray.mk #[]), .string s.topic, .int .i64 s.part, .int .i64 0, .int .i64 0, .int .i64 0, .string (ByteArray.mk #[]), .string (ByteArray.mk #[]), .int .i64 0, .slice none 0 0, .slice Ad m cd, .int .i64 s.count] 83) := ⟨_, rfl⟩
    rw [← hw2, ← hg2]
    obtain ⟨hc1, hr1, hblk, hgm, hDD, hN, hrow, hdat, ⟨f1, f2, f3⟩, hlt, hltw, hw1, hg⟩ := H1.out
    have hb2 : Blk w2 g2 83 #[.int .i64 4, .int .i64 s.corr, .string (ByteArray.mk #[]), .string s.topic, .int .i64 s.part, .int .i64 0, .int .i64 0, .int .i64 0, .string (ByteArray.mk #[]), .string (ByteArray.mk #[]), .int .i64 0, .slice none 0 0, .slice Ad m cd, .int .i64 s.count] := by rw [hw2, hg2]; exact Blk.new _ _ _
    have hc2 : Chg wr w2 (fun _ => False) := by rw [hw2]; exact Chg.alloc _ _ _
    have hr2 := hc2.blk hr1 fun q => q
    have hrow2 := hc2.own hrow fun _ _ q => q
    have hp2 := hc2.blk hblk fun q => q
    have hgl := hr1.lt
    have hFg : ∀ k, F k → k < g := fun k hk => by have := hltw k hk; omega
    have hguF : F gu := f3 gu rfl
    have hgg2 : g < g2 := by omega
    have hdel := cn.delete_any gu cu _ w2 hrow2
    have k0 := hr2.cell 0 (v := .int .i64 s.corr) rfl
    have k1 := hr2.cell 1 (v := .int .i64 code) rfl
    have kl := hr2.lt
    have e1 := hb2.cell 1 rfl
    have el := hb2.lt
    have c3 := hp2.cell 3 rfl
    have l3 := hp2.lt
    have H2 := Lib.hid (And.intro hb2 (And.intro hc2 (And.intro hr2 (And.intro hrow2 (And.intro hp2 (And.intro hFg (And.intro hguF (And.intro hgg2 (And.intro hdel (And.intro f1 f2)))))))))); clear hb2 hc2 hr2 hrow2 hp2 hFg hguF hgg2 hdel f1 f2 f3 hc1 hr1 hblk hgm hDD hN hrow hdat hlt hltw hw1 hg hgl hw2 hg2
    go_upto_region 11 with (first
      | (go_at_call 32; refine H2.out.2.2.2.2.2.2.2.2.1.mono ?_; rintro e w3 ⟨rfl, h1, h2⟩; have hp3 := h2.blk H2.out.2.2.2.2.1 (fun e => by have h9 := H2.out.2.2.2.2.1.not_row (by decide) H2.out.2.2.2.1; exact h9 (by rw [show p = gu from e]; rfl)); have n3 := hp3.cell 3 rfl; have z3 := hp3.frozen 3; have zl := hp3.lt; have H3 := Lib.hid (And.intro h1 (And.intro h2 hp3)); clear h1 h2 hp3)
      | (go_at_call 31; refine (HAG.out w2).mono ?_; rintro e w2' ⟨rfl, h3⟩; subst h3))
    clear n3 z3 zl k0 k1 kl e1 el c3 l3
    obtain ⟨w4, hw4⟩ : ∃ w4, w4 = w3.setCell ⟨p, 3, none⟩ (.slice (some ⟨gu, 0, none⟩) 0 cu) := ⟨_, rfl⟩
    rw [← hw4]
    obtain ⟨hc1, hr1, hblk, hgm, hDD, hN, hrow, hdat, ⟨f1, f2, f3⟩, hlt, hltw, hw1, hg⟩ := H1.out
    have hp4 : Blk w4 p 77 #[.int .i64 id, .int .i64 epoch, .int .i64 corr, .slice (some ⟨gu, 0, none⟩) 0 cu, .map (some mb)] := by rw [hw4]; exact H3.out.2.2.set 3 _
    have hc34 : Chg w3 w4 (fun k => k = p) := by rw [hw4]; exact Chg.setCell _ _ _ _
    have hc24 : Chg w2 w4 (fun k => k = gu ∨ k = p) := (H3.out.2.1.mono fun _ _ q => .inl q).trans hc34 fun _ _ q => .inr q
    have hpmb : p ≠ mb := hgm.not_blk hblk
    have hmbu : mb ≠ gu := fun e => by
      rcases hrow.2 with ⟨h1, -⟩ | ⟨k, cap, cur, h1, -, h4, -⟩
      · cases h1
      · obtain rfl : gu = k := by injection h1 with h1; injection h1 with h1; injection h1
        exact hgm.not_blk (T := 83) h4 e.symm
    have hrow4 := hc34.own H3.out.1 fun k hk e => by
      obtain rfl : gu = k := by cases hk; rfl
      exact hblk.not_row (by decide) hrow (by rw [← show gu = p from e]; rfl)
    have hcn4 : CnAt w4 p id epoch corr none D F n := ⟨.slice (some ⟨gu, 0, none⟩) 0 cu, mb, N, gm, hp4, (hgm.chg H2.out.2.1 fun q => q).chg hc24 fun q => q.elim hmbu fun e => hpmb e.symm, hDD, hN, hrow4, ⟨f1, f2, fun k hk => by cases hk; exact H2.out.2.2.2.2.2.2.1⟩, fun k hk => Nat.lt_of_lt_of_le (hlt k hk) (Nat.le_trans H2.out.2.1.size hc24.size)⟩
    have hF2 : ∀ k, k = gu ∨ k = p → F k := fun k q => q.elim (fun e => by rw [e]; exact H2.out.2.2.2.2.2.2.1) fun e => by rw [e]; exact f1
    have hg2F : ¬ F g2 := fun q => by have h1 := H2.out.2.2.2.2.2.1 _ q; have h2 := H2.out.2.2.2.2.2.2.2.1; omega
    have hgF : ¬ F g := fun q => Nat.lt_irrefl _ (H2.out.2.2.2.2.2.1 _ q)
    have hb4 := hc24.blk H2.out.1 fun q => hg2F (hF2 _ q)
    have hr4 := hc24.blk H2.out.2.2.1 fun q => hgF (hF2 _ q)
    have hc04 : Chg w w4 F := ((hc1.mono fun _ _ q => q.elim).trans H2.out.2.1 fun _ _ q => q.elim).trans hc24 fun k _ q => hF2 k q
    have H4 := Lib.hid (And.intro hcn4 hc04); clear hc04 hc1 hr1 hblk hgm hDD hN hrow hdat f1 f2 f3 hlt hltw hw1 hg hb4 hg2F hF2 hcn4 hrow4 hmbu hpmb hc24 hc34 hp4 hw4 hr4 hgF
    go_wp2_with fail
    go_ret2
    exact ⟨rfl, H4.out.1, H4.out.2⟩
set_option maxHeartbeats 8000000 in
theorem cn.done_other (p : Nat) (id epoch corr : Int) (s : CSent) (D : SlotK → Int) (F : Nat → Prop) (n : Nat) (off : Int) (A0 : Option Addr) (m0 c0 : Nat) (w : World) (h : CnAt w p id epoch corr (some s) D F n) (code rc : Int) (hrc : s.corr ≠ rc) :
    Calls Try.prog 15 #[.pointer (some ⟨p, 0, none⟩), .agg (cn.resp rc code off (.slice A0 m0 c0))] w fun e w' => e = .returned (.tuple #[.int .i64 0, .int .i64 14]) ∧ Below w.heap.size w w' := by
  obtain ⟨w1, hw1⟩ : ∃ w1, w1 = w.alloc (.cells (cn.resp rc code off (.slice A0 m0 c0)) 53) := ⟨_, rfl⟩
  obtain ⟨g, hg⟩ : ∃ g, g = w.heap.size := ⟨_, rfl⟩
  have hltw := h.lt.2
  have hc1 : Chg w w1 (fun _ => False) := by rw [hw1]; exact Chg.alloc _ _ _
  have hr1 : Blk w1 g 53 (cn.resp rc code off (.slice A0 m0 c0)) := by rw [hw1, hg]; exact Blk.new _ _ _
  have hcn1 := h.keep hc1 fun _ _ q => q
  obtain ⟨uv, mb, N, gm, hblk, hgm, hDD, hN, ⟨dv, hrow, hdat, hdF⟩, hfoot, hlt⟩ := hcn1
  obtain ⟨Ad, cd, rfl, -, -⟩ := own_at hdat
  obtain ⟨m, hm⟩ : ∃ m, m = s.data.length := ⟨_, rfl⟩
  rw [← hm] at hrow hdat
  obtain ⟨Au, cu, rfl, -, -⟩ := own_at hrow
  obtain ⟨gu, rfl, hgu, hcel⟩ := cn.row_cells hrow
  unfold cn.sentA at hcel
  have e0 := hcel 0 _ rfl
  have e1 := hcel 1 _ rfl
  have e2 := hcel 2 _ rfl
  have e3 := hcel 3 _ rfl
  have e4 := hcel 4 _ rfl
  have e5 := hcel 5 _ rfl
  have e6 := hcel 6 _ rfl
  have e7 := hcel 7 _ rfl
  have e8 := hcel 8 _ rfl
  have e9 := hcel 9 _ rfl
  have e10 := hcel 10 _ rfl
  have e11 := hcel 11 _ rfl
  have e12 := hcel 12 _ rfl
  have e13 := hcel 13 _ rfl
  have c3 := hblk.cell 3 rfl
  have l3 := hblk.lt
  have k0 := hr1.cell 0 (v := .int .i64 rc) rfl
  have k1 := hr1.cell 1 (v := .int .i64 code) rfl
  have k2 := hr1.cell 2 (v := .int .i64 off) rfl
  have kl := hr1.lt
  unfold cn.resp at hw1 ⊢
  have H1 := Lib.hid (And.intro hc1 (And.intro hr1 (And.intro hblk (And.intro hgm (And.intro hDD (And.intro hN (And.intro hrow (And.intro hdat (And.intro hfoot (And.intro hlt (And.intro hltw (And.intro hw1 hg)))))))))))); clear hc1 hr1 hblk hgm hDD hN hrow hdat hdF hfoot hlt hltw hw1 hg hcel h
  have HM := Lib.hid hm; clear hm
  go_enter Try.func15, Try.ntmps15
  go_upto_region 1 with fail
  rw [← H1.out.2.2.2.2.2.2.2.2.2.2.2.1, ← H1.out.2.2.2.2.2.2.2.2.2.2.2.2]
  go_upto_region 4 with fail
  go_loopw [16] (fun i wx => (i = .int .i64 0 ∧ wx = w1) ∨ (i = .int .i64 1 ∧ Below w.heap.size w wx)) (fun i _ => 1 - (intOf i).toNat)
  case atStart => exact .inl ⟨rfl, rfl⟩
  case round =>
    rcases hrel with ⟨rfl, rfl⟩ | ⟨rfl, hb⟩
    · go_upto_region 6 with fail
      clear e0 e1 e2 e3 e4 e5 e6 e7 e8 e9 e10 e11 e12 e13 c3 l3 k0 k1 k2 kl
      obtain ⟨g2, hg2⟩ : ∃ g2, g2 = wr.heap.size := ⟨_, rfl⟩
      obtain ⟨w2, hw2⟩ : ∃ w2, w2 = wr.alloc (.cells #[.int .i64 4, .int .i64 s.corr, .string (ByteArray.mk #[]), .string s.topic, .int .i64 s.part, .int .i64 0, .int .i64 0, .int .i64 0, .string (ByteArray.mk #[]), .string (ByteArray.mk #[]), .int .i64 0, .slice none 0 0, .slice Ad m cd, .int .i64 s.count] 83) := ⟨_, rfl⟩
      rw [← hw2, ← hg2]
      obtain ⟨hc1, hr1, hblk, hgm, hDD, hN, hrow, hdat, ⟨f1, f2, f3⟩, hlt, hltw, hw1, hg⟩ := H1.out
      have hb2 : Blk w2 g2 83 #[.int .i64 4, .int .i64 s.corr, .string (ByteArray.mk #[]), .string s.topic, .int .i64 s.part, .int .i64 0, .int .i64 0, .int .i64 0, .string (ByteArray.mk #[]), .string (ByteArray.mk #[]), .int .i64 0, .slice none 0 0, .slice Ad m cd, .int .i64 s.count] := by rw [hw2, hg2]; exact Blk.new _ _ _
      have hc2 : Chg wr w2 (fun _ => False) := by rw [hw2]; exact Chg.alloc _ _ _
      have hr2 := hc2.blk hr1 fun q => q
      have k0 := hr2.cell 0 (v := .int .i64 rc) rfl
      have kl := hr2.lt
      have e1 := hb2.cell 1 rfl
      have el := hb2.lt
      have H2 := Lib.hid (hc1.trans hc2 fun _ _ q => q); clear hb2 hc2 hr2 f1 f2 f3 hc1 hr1 hblk hgm hDD hN hrow hdat hlt hltw hw1 hg hw2 hg2
      go_wp2_with fail
      exact ⟨.inr ⟨rfl, H2.out.below (Nat.le_refl _) fun _ q => q.elim⟩, by simp [intOf]⟩
    · have HB := Lib.hid hb; clear hb e0 e1 e2 e3 e4 e5 e6 e7 e8 e9 e10 e11 e12 e13 c3 l3 k0 k1 k2 kl
      go_wp2_with fail
      go_ret2
      exact ⟨rfl, HB.out⟩
set_option maxHeartbeats 2000000 in
theorem cn.done_none (p : Nat) (id epoch corr : Int) (D : SlotK → Int) (F : Nat → Prop) (n : Nat) (r : Array Value) (w : World) (h : CnAt w p id epoch corr none D F n) :
    Calls Try.prog 15 #[.pointer (some ⟨p, 0, none⟩), .agg r] w fun e w' => e = .returned (.tuple #[.int .i64 0, .int .i64 14]) ∧ Below w.heap.size w w' := by
  have hw := h.below ((Below.refl w.heap.size w).alloc (Nat.le_refl _) (.cells r 53))
  obtain ⟨uv, mb, N, g, h1, -, -, -, h5, -⟩ := hw
  obtain ⟨Au, cu, rfl, -, -⟩ := own_at (show World.ownsRow _ 0 83 14 uv 0 [] from h5)
  have c3 := h1.cell 3 rfl
  have l3 := h1.lt
  clear h1 h5 h
  go_enter Try.func15, Try.ntmps15
  go_upto_region 4 with fail
  obtain ⟨w1, hw1⟩ : ∃ w1, w1 = w.alloc (.cells r 53) := ⟨_, rfl⟩
  have hb1 : Below w.heap.size w w1 := by rw [hw1]; exact (Below.refl _ _).alloc (Nat.le_refl _) _
  rw [← hw1]
  clear c3 l3 hw1
  go_loopw [16] (fun i wx => i = .int .i64 0 ∧ wx = w1) (fun _ _ => 0)
  case atStart => exact ⟨rfl, rfl⟩
  case round =>
    obtain ⟨rfl, rfl⟩ := hrel
    have HB := Lib.hid hb1; clear hb1
    go_wp2_with fail
    go_ret2
    exact ⟨rfl, HB.out⟩
end
section
open Go.RowKit Go.Maps
set_option maxRecDepth 100000

def aw.t : SlotK := ⟨ByteArray.mk #[116], 0, by unfold maxLen; decide, by unfold intOk; decide⟩
theorem aw.check : (cn.bat 1 0 0 (cn.recs 2 1)).check = 0 := by decide +kernel
set_option maxHeartbeats 8000000 in
theorem law24.awake (w : World) : Calls Try.prog 9 #[] w fun e w' => e = .returned (.bool true) ∧ Below w.heap.size w w' := by
  obtain ⟨rs, hrs⟩ : ∃ rs, rs = cn.recs 2 1 := ⟨_, rfl⟩
  have hl2 : rs.length = 2 := by rw [hrs]; exact cn.recs_len 2 1
  have hck : (cn.bat 1 0 0 rs).check = 0 := by rw [hrs]; exact aw.check
  have h0 := cn.new_ok 1 0 w (by omega) (by omega)
  have H0 := Lib.hid (And.intro h0 (And.intro hl2 (And.intro hck hrs))); clear h0 hl2 hck hrs
  go_enter Try.func9, Try.ntmps9
  go_upto_region 2 with (go_at_call 10; refine H0.out.1.mono ?_; rintro e w1 ⟨p, rfl, h1, h2⟩; have H1 := Lib.hid (And.intro h1 h2); clear h1 h2)
  go_upto_region 3 with (go_at_call 18; refine (cn.reader_ok (ByteArray.mk #[116]) 0 5 w1 (by omega)).mono ?_; rintro e w2 ⟨rfl, h1, h2⟩; have H2 := Lib.hid (And.intro h1 h2); clear h1 h2)
  go_upto_region 6 with (go_at_call 10; refine (cn.new_bad 0 0 w2 (by omega)).mono ?_; rintro e w2' ⟨rfl, h3⟩; subst h3)
  have h3 : ∀ wx, Calls Try.prog 12 #[.int .i64 2, .int .i64 1] wx fun e w' => ∃ A3 c3, e = .returned (.slice A3 rs.length c3) ∧ RecsV w' (.slice A3 rs.length c3) rs ∧ Below wx.heap.size wx w' := fun wx => by
    refine (cn.records_any 2 1 wx (by omega)).mono ?_
    rintro e w' ⟨v, rfl, h1, h2⟩
    rw [← H0.out.2.2.2] at h1
    obtain ⟨A3, c3, rfl, h4⟩ := h1.recsV
    exact ⟨A3, c3, rfl, h4, h2⟩
  have h5 : ∀ wx, ∃ m, Calls Try.prog 12 #[.int .i64 1, .int .i64 1] wx fun e w' => ∃ A3 c3, e = .returned (.slice A3 m c3) ∧ Below wx.heap.size wx w' := fun wx => by
    refine ⟨(cn.recs 1 1).length, (cn.records_any 1 1 wx (by omega)).mono ?_⟩
    rintro e w' ⟨v, rfl, h1, h2⟩
    obtain ⟨A3, c3, rfl, -⟩ := h1.recsV
    exact ⟨A3, c3, rfl, h2⟩
  have hmk : ∀ (wx : World) (A3 : Option Addr) (c3 : Nat), CnAt wx p 1 0 0 none (fun _ => 0) (cn.fresh w w1) 0 → RecsV wx (.slice A3 rs.length c3) rs → Calls Try.prog 13 #[.pointer (some ⟨p, 0, none⟩), .string (ByteArray.mk #[116]), .int .i64 0, .slice A3 rs.length c3] wx fun e w' => ∃ A4 m c4 F4, e = .returned (.tuple #[.agg #[.int .i64 4, .int .i64 1, .string (ByteArray.mk #[]), .string (ByteArray.mk #[116]), .int .i64 0, .int .i64 0, .int .i64 0, .int .i64 0, .string (ByteArray.mk #[]), .string (ByteArray.mk #[]), .int .i64 0, .slice none 0 0, .slice A4 m c4], .int .i64 0]) ∧
      CnAt w' p 1 0 1 (some ⟨1, aw.t.s, aw.t.p, (cn.bat 1 0 0 rs).bytes, 2⟩) (fun _ => 0) F4 0 ∧ (∀ k, F4 k → cn.fresh w w1 k ∨ wx.heap.size ≤ k) ∧ Chg wx w' (cn.fresh w w1) := fun wx A3 c3 hcn hv => by
    refine (cn.make_ok p 1 0 0 (fun _ => 0) (cn.fresh w w1) 0 aw.t A3 c3 rs wx hcn hv (by rw [H0.out.2.1]; omega) (by rw [H0.out.2.1]; omega) H0.out.2.2.1 (by omega)).mono ?_
    rintro e w' ⟨A4, c4, M, rfl, h1, h2, h4, h6⟩
    rw [H0.out.2.1] at h4
    exact ⟨A4, _, c4, _, rfl, h4, fun k hk => hk.1, h6⟩
  have HF := Lib.hid (And.intro h3 (And.intro h5 hmk)); clear h3 h5 hmk
  go_upto_region 7 with (first
    | (go_at_call 13; refine (HF.out.2.2 w3 A3 c3 ((H1.out.1.below H2.out.2).below H3.out.2) H3.out.1).mono ?_; rintro e w4 ⟨A4, m, c4, F4, rfl, h1, h2, h4⟩; have H4 := Lib.hid (And.intro h1 (And.intro h2 h4)); clear h1 h2 h4)
    | (go_at_call 12; refine (HF.out.1 w2).mono ?_; rintro e w3 ⟨A3, c3, rfl, h1, h2⟩; have H3 := Lib.hid (And.intro h1 h2); clear h1 h2))
  obtain ⟨w5, hw5⟩ : ∃ w5, w5 = w4.alloc (.cells #[.int .i64 4, .int .i64 1, .string (ByteArray.mk #[]), .string (ByteArray.mk #[116]), .int .i64 0, .int .i64 0, .int .i64 0, .int .i64 0, .string (ByteArray.mk #[]), .string (ByteArray.mk #[]), .int .i64 0, .slice none 0 0, .slice A4 m c4] 35) := ⟨_, rfl⟩
  obtain ⟨b7, hb7⟩ : ∃ b7, b7 = w4.heap.size := ⟨_, rfl⟩
  rw [← hw5, ← hb7]
  have hk5 : Blk w5 b7 35 #[.int .i64 4, .int .i64 1, .string (ByteArray.mk #[]), .string (ByteArray.mk #[116]), .int .i64 0, .int .i64 0, .int .i64 0, .int .i64 0, .string (ByteArray.mk #[]), .string (ByteArray.mk #[]), .int .i64 0, .slice none 0 0, .slice A4 m c4] := by rw [hw5, hb7]; exact Blk.new _ _ _
  have hc5 : Chg w4 w5 (fun _ => False) := by rw [hw5]; exact Chg.alloc _ _ _
  have hcn5 := H4.out.1.keep hc5 fun _ _ q => q
  have hb7F : ¬ F4 b7 := fun q => by have := H4.out.1.lt.2 b7 q; omega
  obtain ⟨m6, h6⟩ := HF.out.2.1 w5
  have H5 := Lib.hid (And.intro hk5 (And.intro hc5 (And.intro hcn5 (And.intro hb7F (And.intro h6 hb7))))); clear hk5 hc5 hcn5 hb7F h6 hw5 hb7
  go_upto_region 8 with (first
    | (go_at_call 13; refine (cn.make_wait p 1 0 1 _ _ F4 0 _ _ _ w6 (H5.out.2.2.1.below H6.out)).mono ?_; rintro e w7 ⟨rfl, h1⟩; unfold cn.zero; have H7 := Lib.hid h1; clear h1)
    | (go_at_call 12; refine H5.out.2.2.2.2.1.mono ?_; rintro e w6 ⟨A6, c6, rfl, h1⟩; have H6 := Lib.hid h1; clear h1))
  obtain ⟨w8, hw8⟩ : ∃ w8, w8 = w7.alloc (.cells #[.int .i64 0, .int .i64 0, .string (ByteArray.mk #[]), .string (ByteArray.mk #[]), .int .i64 0, .int .i64 0, .int .i64 0, .int .i64 0, .string (ByteArray.mk #[]), .string (ByteArray.mk #[]), .int .i64 0, .slice none 0 0, .slice none 0 0] 35) := ⟨_, rfl⟩
  rw [← hw8]
  have hc58 : Chg w5 w8 (fun _ => False) := by rw [hw8]; exact ((chg_of (P := fun _ => False) H6.out).trans (chg_of (P := fun _ => False) H7.out) fun _ _ q => q).trans (Chg.alloc _ _ _) fun _ _ q => q
  have hcn8 := H5.out.2.2.1.keep hc58 fun _ _ q => q
  have hk8 := hc58.blk H5.out.1 fun q => q
  have hdone := cn.done_ok p 1 0 1 _ (fun _ => 0) F4 0 aw.t ⟨rfl, rfl⟩ 9 none 0 0 w8 hcn8 (by omega) (by omega) (by show (0 : Int) ≤ 2 ∧ (2 : Int) ≤ 1000000; omega)
  have H8 := Lib.hid (And.intro hc58 (And.intro hk8 hdone)); clear hc58 hcn8 hk8 hdone hw8
  go_upto_region 9 with (go_at_call 15; refine H8.out.2.2.mono ?_; rintro e w9 ⟨rfl, h1, h2⟩; have H9 := Lib.hid (And.intro h1 h2); clear h1 h2)
  obtain ⟨r, hr⟩ : ∃ r, r = w1.heap.size := ⟨_, rfl⟩
  have hs1 := H1.out.2.size
  have hs2 := H2.out.2.size
  have hs3 := H3.out.2.size
  have hs4 := H4.out.2.2.size
  have hrl := H2.out.1.lt
  have hr4F : ¬ F4 r := fun q => (H4.out.2.1 r q).elim (fun q => by have := q.2; omega) fun q => by omega
  have hrd3 : RdrAt w3 r (ByteArray.mk #[116]) 0 5 0 := by rw [hr]; exact (chg_of (P := fun _ => False) H3.out.2).blk H2.out.1 fun q => q
  have hrd4 : RdrAt w4 r (ByteArray.mk #[116]) 0 5 0 := H4.out.2.2.blk hrd3 fun q => by have := q.2; omega
  have hrd9 : RdrAt w9 r (ByteArray.mk #[116]) 0 5 0 := H9.out.2.blk (H8.out.1.blk (H5.out.2.1.blk hrd4 fun q => q) fun q => q) hr4F
  have hask : Calls Try.prog 19 #[.pointer (some ⟨r, 0, none⟩), .int .i64 100] w9 fun e w' => e = .returned (.agg #[.int .i64 5, .int .i64 1, .string (ByteArray.mk #[]), .string (ByteArray.mk #[116]), .int .i64 0, .int .i64 5, .int .i64 0, .int .i64 100, .string (ByteArray.mk #[]), .string (ByteArray.mk #[]), .int .i64 0, .slice none 0 0, .slice none 0 0]) ∧ Chg w9 w' (fun k => k = r) := by
    refine (cn.ask_any r (ByteArray.mk #[116]) 0 5 0 100 w9 hrd9 (by omega)).mono ?_
    rintro e w' ⟨rfl, -, h2⟩
    exact ⟨rfl, h2⟩
  have hb7 := H5.out.2.2.2.2.2
  have hbr : b7 ≠ r := by rw [hr] at *; omega
  have hk9 := H9.out.2.blk H8.out.2.1 H5.out.2.2.2.1
  have hch : Chg w w9 (fun k => w.heap.size ≤ k) := by
    have a1 : Chg w w3 (fun k => w.heap.size ≤ k) := (((chg_of (P := fun _ => False) H1.out.2).trans (chg_of (P := fun _ => False) H2.out.2) fun _ _ q => q).trans (chg_of (P := fun _ => False) H3.out.2) fun _ _ q => q).mono fun _ _ q => q.elim
    have a2 : Chg w w4 (fun k => w.heap.size ≤ k) := a1.trans H4.out.2.2 fun k _ q => q.1
    have a3 : Chg w w8 (fun k => w.heap.size ≤ k) := (a2.trans H5.out.2.1 fun _ _ q => q.elim).trans H8.out.1 fun _ _ q => q.elim
    exact a3.trans H9.out.2 fun k _ q => (H4.out.2.1 k q).elim (fun q => q.1) fun q => by omega
  have hrF : ∀ k, F4 k → k ≠ r := fun k q e => hr4F (e ▸ q)
  have HA := Lib.hid (And.intro hask (And.intro hk9 (And.intro hch (And.intro hbr (And.intro hrF (And.intro hr (by omega : w.heap.size ≤ r))))))); clear hask hk9 hch hbr hrF hs1 hs2 hs3 hs4 hrl hr4F hrd3 hrd4 hrd9 hb7
  rw [← HA.out.2.2.2.2.2.1]
  clear hr
  go_upto_region 10 with (go_at_call 19; refine HA.out.1.mono ?_; rintro e w10 ⟨rfl, h1⟩; have H10 := Lib.hid h1; clear h1)
  obtain ⟨w11, hw11⟩ : ∃ w11, w11 = w10.alloc (.cells #[.int .i64 5, .int .i64 1, .string (ByteArray.mk #[]), .string (ByteArray.mk #[116]), .int .i64 0, .int .i64 5, .int .i64 0, .int .i64 100, .string (ByteArray.mk #[]), .string (ByteArray.mk #[]), .int .i64 0, .slice none 0 0, .slice none 0 0] 35) := ⟨_, rfl⟩
  obtain ⟨g13, hg13⟩ : ∃ g13, g13 = w10.heap.size := ⟨_, rfl⟩
  rw [← hw11, ← hg13]
  have hk13 : Blk w11 g13 35 #[.int .i64 5, .int .i64 1, .string (ByteArray.mk #[]), .string (ByteArray.mk #[116]), .int .i64 0, .int .i64 5, .int .i64 0, .int .i64 100, .string (ByteArray.mk #[]), .string (ByteArray.mk #[]), .int .i64 0, .slice none 0 0, .slice none 0 0] := by rw [hw11, hg13]; exact Blk.new _ _ _
  have hc11 : Chg w9 w11 (fun k => k = r) := by rw [hw11]; exact H10.out.trans (Chg.alloc _ _ (fun _ => False)) fun _ _ q => q.elim
  have hk11 := hc11.blk HA.out.2.1 HA.out.2.2.2.1
  have hcn11 := H9.out.1.keep hc11 HA.out.2.2.2.2.1
  have hseq := cn.seq_any aw.t p 1 0 1 none _ F4 1 w11 hcn11
  have hu : cn.upd (fun _ => 0) aw.t (0 + 2) aw.t = 2 := by unfold cn.upd; rw [if_pos rfl]; rfl
  have hseq2 : Calls Try.prog 17 #[.pointer (some ⟨p, 0, none⟩), .string (ByteArray.mk #[116]), .int .i64 0] w11 fun e w' => e = .returned (.int .i64 2) ∧ w11 = w' := by
    refine hseq.mono ?_
    rintro e w' ⟨rfl, h⟩
    exact ⟨congrArg (fun v => Ending.returned (Value.int .i64 v)) hu, h⟩
  have y0 := hk11.cell 0 rfl
  have y1 := hk11.cell 1 rfl
  have yl := hk11.lt
  have x0 := hk13.cell 0 rfl
  have x5 := hk13.cell 5 rfl
  have xl := hk13.lt
  have hfin : Below w.heap.size w w11 := (HA.out.2.2.1.trans hc11 fun k _ q => by rw [show k = r from q]; exact HA.out.2.2.2.2.2.2).below (Nat.le_refl _) fun _ q => q
  have HZ := Lib.hid (And.intro hseq2 hfin); clear hseq2 hfin hseq hu hcn11 hk11 hc11 hk13 hw11 hg13
  go_wp2_with (go_at_call 17; refine HZ.out.1.mono ?_; rintro e w11' ⟨rfl, h3⟩; subst h3)
  go_ret
  exact ⟨rfl, HZ.out.2⟩
end
end Go.Proofs.Ytahncanmfjmfnaa

/- Contract of the iterator that num.All hands back: the numbers of a row of bytes, in their order. -/
import Derived.RangeFuncBox
import Derived.RangeFuncNested
import Derived.RangeFuncLeaves
import Derived.Shelf.Abstract
import Derived.OwnWalkIn
import Derived.TacticsInMore
import Derived.LoopNIn
import Derived.LoopIn
import Derived.Maps.AppendAt
import Derived.Test.YtfblfgnnnbcplaaNumP
import Derived.Test.YtfblfgnnnbcplaaClone
namespace Go.Proofs.Ytfblfgnnnbcplaa
open Go.RowKit Go.Shelf
attribute [local go_sem] Oper.semAt_some

/-- A slice's cells, in a block below n₀. -/
def AtU (n₀ : Nat) (w : World) (A : Option Addr) (n : Nat) (V : Nat → Value) : Prop :=
  0 < n → ∃ b off, A = some ⟨b, off, none⟩ ∧ b < n₀ ∧ ∀ j, j < n → w.cell? ⟨b, off + j, none⟩ = some (V j)
theorem AtU.below {n₀ : Nat} {w w' : World} {A : Option Addr} {n : Nat} {V : Nat → Value} (h : AtU n₀ w A n V) (hb : Below n₀ w w') : AtU n₀ w' A n V := fun hn => by
  obtain ⟨b, off, hA, hlt, hc⟩ := h hn
  exact ⟨b, off, hA, hlt, fun j hj => (hb.cell (p := ⟨b, off + j, none⟩) hlt).trans (hc j hj)⟩
theorem AtU.at' {n₀ : Nat} {w : World} {A : Option Addr} {n : Nat} {V : Nat → Value} (h : AtU n₀ w A n V) (hs : n₀ ≤ w.heap.size) : At w A n V := fun hn => by
  obtain ⟨b, off, hA, hlt, hc⟩ := h hn
  exact ⟨b, off, hA, by omega, hc⟩
theorem At.atU {n₀ : Nat} {w : World} {A : Option Addr} {n : Nat} {V : Nat → Value} (h : At w A n V) (hs : w.heap.size ≤ n₀) : AtU n₀ w A n V := fun hn => by
  obtain ⟨b, off, hA, hlt, hc⟩ := h hn
  exact ⟨b, off, hA, by omega, hc⟩
/-- 's[k:]'. -/
theorem AtU.from {n₀ : Nat} {w : World} {A : Option Addr} {n : Nat} {V V' : Nat → Value} (h : AtU n₀ w A n V) (k : Nat) (hk : k ≤ n) (hV : ∀ j, j < n - k → V (k + j) = V' j) : AtU n₀ w (A.map fun a => a.add k) (n - k) V' := fun hn => by
  obtain ⟨b, off, rfl, hlt, hc⟩ := h (by omega)
  exact ⟨b, off + k, by simp [add_none], hlt, fun j hj => by rw [Nat.add_assoc, hc _ (by omega), hV j hj]⟩
theorem AtU.none {n₀ : Nat} {w : World} {A : Option Addr} {n : Nat} {V : Nat → Value} (h : n = 0) : AtU n₀ w A n V := fun hn => by omega

def lenOf : Value → Nat
  | .slice _ n _ => n
  | _ => 0

/-- A row of numbers, as bytes. -/
def num.puts (xs : List Int) : List Nat := (xs.map num.put).flatten
theorem num.puts_cons (x : Int) (xs : List Int) : num.puts (x :: xs) = num.put x ++ num.puts xs := by simp [num.puts]
theorem num.puts_snoc (xs : List Int) (x : Int) : num.puts (xs ++ [x]) = num.puts xs ++ num.put x := by simp [num.puts]
theorem num.puts_len (xs : List Int) : xs.length ≤ (num.puts xs).length := by
  induction xs with
  | nil => simp [num.puts]
  | cons x xs ih => rw [num.puts_cons, List.length_append, List.length_cons]; have := num.put_bd x; omega
theorem num.puts_le (xs : List Int) : (num.puts xs).length ≤ 10 * xs.length := by
  induction xs with
  | nil => simp [num.puts]
  | cons x xs ih => rw [num.puts_cons, List.length_append, List.length_cons]; have := num.put_bd x; omega
theorem byteAt_right (a b : List Nat) (j : Nat) : byteAt (a ++ b) (a.length + j) = byteAt b j := by
  unfold byteAt; rw [getD_right]

abbrev I64 := { x : Int // -9223372036854775808 ≤ x ∧ x ≤ 9223372036854775807 }
def raw (xs : List I64) : List Int := xs.map Subtype.val

theorem mem_raw {xs : List I64} {y : Int} (h : y ∈ raw xs) : -9223372036854775808 ≤ y ∧ y ≤ 9223372036854775807 := by
  obtain ⟨a, _, rfl⟩ := List.mem_map.1 h
  exact a.2
theorem num.puts_byte {xs : List Int} (h : ∀ y ∈ xs, -9223372036854775808 ≤ y ∧ y ≤ 9223372036854775807) : ∀ d ∈ num.puts xs, d < 256 := by
  intro d hd
  simp only [num.puts, List.mem_flatten, List.mem_map] at hd
  obtain ⟨_, ⟨y, hy, rfl⟩, hd⟩ := hd
  exact num.put_byte y (h y hy).1 (h y hy).2 d hd
theorem getD_mem {L : List Nat} (h : ∀ j, j < L.length → L.getD j 0 < 256) : ∀ d ∈ L, d < 256 := by
  intro d hd
  obtain ⟨i, hi, rfl⟩ := List.mem_iff_getElem.1 hd
  have := h i hi
  simpa [List.getD, hi] using this
theorem num.mix_byte (x : I64) (xs : List Int) (Z : List Nat) (h : ∀ y ∈ xs, -9223372036854775808 ≤ y ∧ y ≤ 9223372036854775807) (hz : ∀ j, j < Z.length → Z.getD j 0 < 256) (j : Nat) (hj : j < (num.put x.1 ++ (num.puts xs ++ Z)).length) :
    (num.put x.1 ++ (num.puts xs ++ Z)).getD j 0 < 256 :=
  getD_all (p := fun d => d < 256) (fun d hd => by
    rcases List.mem_append.1 hd with h1 | h1
    · exact num.put_byte x.1 x.2.1 x.2.2 d h1
    · rcases List.mem_append.1 h1 with h2 | h2
      · exact num.puts_byte h d h2
      · exact getD_mem hz d h2) j hj

theorem own_cap {w : World} {base : Nat} {e : TypeId} {size : Nat} {A : Option Addr} {c n k : Nat} {xs : List Value} (h : w.ownsRow base e size (.slice A k c) n xs) : c ≤ maxLen := by
  rcases h.2 with ⟨h1, _⟩ | ⟨g, cap, cur, h1, _, _, _, hm, _⟩
  · cases h1; exact Nat.zero_le _
  · cases h1; exact hm

/-- What an iterator's walk leaves: all came, or a part came and a round said no. -/
def IterPost {α : Type} (xs : List α) (J Jx : List α → World → Prop) (e : Ending) (W : World) : Prop :=
  (∃ v, e = .returned v) ∧ ((∃ ys, ys = xs ∧ J ys W) ∨ (∃ pre, pre <+: xs ∧ Jx pre W))

set_option maxRecDepth 100000 in
set_option maxHeartbeats 2000000 in
theorem num.all1_in (n : Nat) (hn : 2 ≤ n) (l Bs n₀ : Nat) (A : Option Addr) (m c : Nat) (xs : List I64) (Z : List Nat) (hm : (num.puts (raw xs) ++ Z).length = m) (hmc : m ≤ c) (hcm : c ≤ 9223372036854775807)
    (hzb : ∀ j, j < Z.length → Z.getD j 0 < 256) (hZ : num.get (fun j => Z.getD j 0) Z.length = none) (J Jx : List I64 → World → Prop)
    (hY : ∀ pre x W, J pre W → pre.length < xs.length → YieldAt Fence.wide (n - 1) Try.prog l #[.int .i64 (x : I64).1] W fun e W' =>
      (e = .returned (.bool true) ∧ J (pre ++ [x]) W' ∧ Below n₀ W W') ∨ (e = .returned (.bool false) ∧ Jx (pre ++ [x]) W'))
    (W : World) (hn₀ : n₀ ≤ W.heap.size) (hBs : W.cell? ⟨Bs, 0, none⟩ = some (.slice A m c)) (hat : AtU n₀ W A m (byteAt (num.puts (raw xs) ++ Z))) (h0 : J [] W) :
    CallsIn Fence.wide n Try.prog 43 #[.func (.yield l) #[] #[], .pointer (some ⟨Bs, 0, none⟩)] W (IterPost xs J Jx) := by
  refine callsIn_of_wp Try.func43 rfl trivial ?_ rfl
  simp only [Try.ntmps43, List.size_toArray, List.length_cons, List.length_nil, Nat.reduceAdd, Nat.reduceSub, Array.replicate_succ, Array.replicate_zero, List.push_toArray, List.append_toArray, List.nil_append, List.cons_append]
  have HAT := Lib.hid hat; clear hat
  have HM := Lib.hid hm; clear hm
  have HZ := Lib.hid hZ; clear hZ
  have HZB := Lib.hid hzb; clear hzb
  have hw : W.heap.size ≤ W.heap.size := Nat.le_refl _
  gi_wp2
  gi_loopw [3] (fun v wr => ∃ (pre post : List I64) (A' : Option Addr) (m' c' : Nat), v = .slice A' m' c' ∧ m' ≤ c' ∧ c' ≤ c ∧ xs = pre ++ post ∧ (num.puts (raw post) ++ Z).length = m' ∧ AtU n₀ wr A' m' (byteAt (num.puts (raw post) ++ Z)) ∧ J pre wr ∧ n₀ ≤ wr.heap.size)
    (fun v _ => lenOf v)
  case atStart => exact ⟨[], xs, A, m, c, rfl, hmc, Nat.le_refl _, rfl, HM.out, HAT.out, h0, hn₀⟩
  case round =>
    obtain ⟨pre, post, A', m', c', rfl, hmc', hcc', hx, hm', hat', hJs, hnw⟩ := hrel
    have HM' := Lib.hid hm'; clear hm'
    have HAT' := Lib.hid hat'; clear hat'
    have HX := Lib.hid hx; clear hx
    cases post with
    | nil =>
      have hz0 : num.puts (raw []) ++ Z = Z := rfl
      have hx' : pre = xs := by rw [HX.out, List.append_nil]
      have HX' := Lib.hid hx'; clear hx'
      by_cases h0 : m' = 0
      · have hm0 : ¬ (0 : Int) < m' := by omega
        gi_wp2
        go_end0
        exact ⟨⟨_, rfl⟩, .inl ⟨pre, HX'.out, hJs⟩⟩
      · have hm0 : (0 : Int) < m' := by omega
        gi_wp2_with fail
        refine ⟨trivial, fun _ => by omega, ?_⟩
        refine (callsIn_wide.2 (num.get_any A' m' c' (fun j => Z.getD j 0) wr (by omega) (show At wr A' m' (byteAt (num.puts (raw []) ++ Z)) from HAT'.out.at' hnw) (fun j hj => HZB.out j (by have := HM'.out; rw [hz0] at this; omega)))).mono ?_
        rintro e w' ⟨rfl, rfl⟩
        have hres : num.res (num.get (fun j => Z.getD j 0) m') = .tuple #[.int .i64 0, .int .i64 0, .int .i64 2] := by rw [← HM'.out, hz0, HZ.out]; rfl
        rw [hres]
        clear hres
        gi_wp2
        refine ⟨fun _ h => (by cases h), ?_⟩
        gi_wp2
        refine bodyPost_ret (results_none rfl _ _ _) rfl ?_
        exact ⟨⟨_, rfl⟩, .inl ⟨pre, HX'.out, hJs⟩⟩
    | cons x post =>
      have hlen : (num.put x.1).length + (num.puts (raw post) ++ Z).length = m' := by
        have := HM'.out
        simp only [raw, List.map_cons, num.puts_cons, List.append_assoc, List.length_append] at this ⊢
        omega
      have hpb := num.put_bd x.1
      have hle : (num.put x.1).length ≤ m' := by omega
      have hm0 : (0 : Int) < m' := by omega
      have hbd : ∀ j, j < m' → (num.puts (raw (x :: post)) ++ Z).getD j 0 < 256 := fun j hj => by
        have hl := HM'.out
        simp only [raw, List.map_cons, num.puts_cons, List.append_assoc] at hl ⊢
        exact num.mix_byte x (raw post) Z (fun y hy => (mem_raw hy)) HZB.out j (by simp only [List.length_append, raw] at hl ⊢; omega)
      have HBD := Lib.hid hbd; clear hbd
      have hget : num.res (num.get (fun j => (num.puts (raw (x :: post)) ++ Z).getD j 0) m') = .tuple #[.int .i64 x.1, .int .i64 ((num.put x.1).length : Nat), .int .i64 0] := by
        have h := num.getL_put x.1 (num.puts (raw post) ++ Z) x.2.1 x.2.2 m' (by rw [List.length_append]; omega)
        rw [← h]
        congr 3
        funext j
        simp only [raw, List.map_cons, num.puts_cons, List.append_assoc]
      have HGET := Lib.hid hget; clear hget
      obtain ⟨fn, tmps, assign, body, hy, hR⟩ := hY pre x wr hJs (by rw [HX.out]; simp)
      gi_wp2_with fail
      refine ⟨trivial, fun _ => by omega, ?_⟩
      refine (callsIn_wide.2 (num.get_any A' m' c' (fun j => (num.puts (raw (x :: post)) ++ Z).getD j 0) _ (by omega) (HAT'.out.at' hnw) HBD.out)).mono ?_
      rintro e w' ⟨rfl, rfl⟩
      rw [HGET.out]
      gi_wp2
      refine ⟨fun _ => by omega, hR.mono ?_⟩
      rintro e W3 (⟨rfl, hJ3, hk3⟩ | ⟨rfl, hJx3⟩)
      · obtain ⟨u, hu⟩ : ∃ u, u = (num.put x.1).length := ⟨_, rfl⟩
        rw [← hu] at hle
        have hat3 : AtU n₀ W3 (A'.map fun a => a.add u) (m' - u) (byteAt (num.puts (raw post) ++ Z)) := by
          subst hu
          exact (HAT'.out.below hk3).from _ hle fun j _ => by
            simp only [raw, List.map_cons, num.puts_cons, List.append_assoc]; exact byteAt_right _ _ j
        have HAT3 := Lib.hid hat3; clear hat3
        have hlen3 : (num.puts (raw post) ++ Z).length = m' - u := by omega
        have HLEN3 := Lib.hid hlen3; clear hlen3 hlen
        have hsz3 : n₀ ≤ W3.heap.size := by have := hk3.size; omega
        have hu0 : 1 ≤ u := by omega
        rw [← hu]
        have HU := Lib.hid hu; clear hu
        by_cases hcu : c' = u
        all_goals
          gi_wp2
          go_roundw
          case rel =>
            first
              | exact ⟨pre ++ [x], post, _, m' - u, c' - u, rfl, by omega, by omega, by rw [HX.out]; simp, HLEN3.out, HAT3.out, hJ3, hsz3⟩
              | exact ⟨pre ++ [x], post, A', m' - u, 0, rfl, by omega, by omega, by rw [HX.out]; simp, HLEN3.out, AtU.none (by omega), hJ3, hsz3⟩
          case measure => simp [lenOf]; omega
      · gi_wp2
        refine bodyPost_ret (results_none rfl _ _ _) rfl ?_
        exact ⟨⟨_, rfl⟩, .inr ⟨pre ++ [x], ⟨post, by rw [HX.out]; simp⟩, hJx3⟩⟩

set_option maxHeartbeats 1000000 in
/-- num.All: a copy of the bytes, boxed; the function value captures the box. -/
theorem num.all_any (X : Option Addr) (m c : Nat) (L : List Nat) (w : World) (hl : L.length = m) (hm : m ≤ 140737488351232) (hat : At w X m (byteAt L)) :
    Calls Try.prog 19 #[.slice X m c] w fun e w' => ∃ (Bs : Nat) (A : Option Addr) (c' : Nat), e = .returned (.func (.func 43) #[] #[.pointer (some ⟨Bs, 0, none⟩)]) ∧ m ≤ c' ∧ c' ≤ maxLen ∧
      w'.cell? ⟨Bs, 0, none⟩ = some (.slice A m c') ∧ Bs < w'.heap.size ∧ At w' A m (byteAt L) ∧ Below w.heap.size w w' := by
  go_enter Try.func19, Try.ntmps19
  go_wp2_with fail
  refine (clone_any X m c L w hl hm hat).mono ?_
  rintro e w1 ⟨⟨v, rfl, hown⟩, hb⟩
  obtain ⟨A, c1, rfl, hc1, hl1, hat1⟩ := own_bytes hown
  have hc2 : c1 ≤ maxLen := own_cap hown
  clear hown hat
  have HAT1 := Lib.hid hat1; clear hat1
  have HB := Lib.hid hb; clear hb
  have HL := Lib.hid hl; clear hl
  clear hl1
  go_wp2
  go_ret
  exact ⟨w1.heap.size, A, c1, rfl, hc1, hc2, by simp, by simp, HAT1.out.alloc _, HB.out.alloc HB.out.size _⟩
end Go.Proofs.Ytfblfgnnnbcplaa

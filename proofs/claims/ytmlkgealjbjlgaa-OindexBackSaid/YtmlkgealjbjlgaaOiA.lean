/- Contracts of the law package's made and same (cordwainlaw6), of oindex.Lookup. -/
import Derived.Test.YtmlkgealjbjlgaaApp
import Derived.Test.YtmlkgealjbjlgaaProg
import Derived.Deep.RegionHeld3
import Derived.Deep.AppendLies
import Derived.StillTailTactics
namespace Go.Proofs.Ytmlkgealjbjlgaa
open Go.RowKit

/-- Rows of two numbers, one behind the other. -/
def rows2 (f : Nat → Nat → Int) (n : Nat) : List Value := (List.range n).flatMap fun i => [.int .i64 (f i 0), .int .i64 (f i 1)]
theorem rows2_succ (f : Nat → Nat → Int) (n : Nat) : rows2 f (n + 1) = rows2 f n ++ [.int .i64 (f n 0), .int .i64 (f n 1)] := by
  unfold rows2; rw [List.range_succ, List.flatMap_append]; simp
theorem rows2_len (f : Nat → Nat → Int) (n : Nat) : (rows2 f n).length = n * 2 := by
  induction n with
  | zero => rfl
  | succ n ih => rw [rows2_succ, List.length_append, ih]; simp; omega
theorem rows2_get (f : Nat → Nat → Int) (n i j : Nat) (hi : i < n) (hj : j < 2) : (rows2 f n)[i * 2 + j]? = some (.int .i64 (f i j)) := by
  induction n with
  | zero => omega
  | succ n ih =>
    rw [rows2_succ]
    by_cases h : i < n
    · rw [List.getElem?_append_left (by rw [rows2_len]; omega)]
      exact ih h
    · obtain rfl : i = n := by omega
      rw [List.getElem?_append_right (by rw [rows2_len]; omega), rows2_len, show i * 2 + j - i * 2 = j by omega]
      match j with
      | 0 => rfl
      | 1 => rfl
      | j + 2 => omega
/-- A slice of rows of two numbers. -/
def At2 (w : World) (A : Option Addr) (n : Nat) (f : Nat → Nat → Int) : Prop := ∃ V, At w A (n * 2) V ∧ ∀ i j, i < n → j < 2 → V (i * 2 + j) = .int .i64 (f i j)
theorem At2.below {w w' : World} {A : Option Addr} {n B : Nat} {f : Nat → Nat → Int} (h : At2 w A n f) (hb : Below B w w') (hB : w.heap.size ≤ B) : At2 w' A n f := by
  obtain ⟨V, h1, h2⟩ := h
  exact ⟨V, h1.below hb hB, h2⟩
theorem At2.get {w : World} {A : Option Addr} {n : Nat} {f : Nat → Nat → Int} (h : At2 w A n f) (k : Nat) (hk : k < n) :
    ∃ b off, A = some ⟨b, off, none⟩ ∧ b < w.heap.size ∧ w.cell? ⟨b, off + k * 2, none⟩ = some (.int .i64 (f k 0)) ∧ w.cell? ⟨b, off + k * 2 + 1, none⟩ = some (.int .i64 (f k 1)) := by
  obtain ⟨V, h1, h2⟩ := h
  obtain ⟨b, off, hA, hb, hc⟩ := h1 (by omega)
  refine ⟨b, off, hA, hb, ?_, ?_⟩
  · have := h2 k 0 hk (by omega)
    rw [hc _ (by omega)]; exact congrArg some this
  · rw [Nat.add_assoc, hc _ (by omega), h2 k 1 hk (by omega)]
theorem own_at2 {w : World} {base e : Nat} {v : Value} {n : Nat} {f : Nat → Nat → Int} (h : w.ownsRow base e 2 v n (rows2 f n)) : ∃ A c, v = .slice A n c ∧ n ≤ c ∧ At2 w A n f := by
  obtain ⟨A, c, rfl, h1, h2⟩ := own_at h
  refine ⟨A, c, rfl, h1, _, h2, fun i j hi hj => ?_⟩
  simp only [List.getD, rows2_get f n i j hi hj, Option.getD_some]

theorem infoEnt : (Try.prog.info? 78).map (fun i => (i.zero, i.size, i.bytes)) = some (some (.agg #[.int .i64 0, .int .i64 0]), 2, 16) := by kernel_rfl

set_option maxHeartbeats 1000000 in
theorem oi.made_any (A : Option Addr) (n c : Nat) (f : Nat → Nat → Int) (w : World) (hn : n ≤ 1099511627776) (hat : At2 w A n f) :
    Calls Try.prog 21 #[.slice A n c] w fun e w' => (∃ v, e = .returned v ∧ w'.ownsRow w.heap.size 78 2 v n (rows2 f n)) ∧ Below w.heap.size w w' := by
  have HAT := Lib.hid hat; clear hat
  obtain ⟨i0, hi, hz0, hz1, hz2⟩ := info_parts infoEnt
  go_enter Try.func21, Try.ntmps21
  go_wp2
  go_loopw [3, 4] (fun v i wr => ∃ (k : Nat) (A' : Option Addr) (c' : Nat), k ≤ n ∧ i = .int .i64 k ∧ v = .slice A' k c' ∧ wr.ownsRow w.heap.size 78 2 v k (rows2 f k) ∧ Below w.heap.size w wr) (fun _ i _ => n - (intOf i).toNat)
  case atStart => exact ⟨0, none, 0, by omega, rfl, rfl, World.ownsRow_nil _ _ _ _, Below.refl _ _⟩
  case round =>
    obtain ⟨k, A', c', hk, rfl, rfl, hown, hb⟩ := hrel
    have HOWN := Lib.hid hown; clear hown
    have HB := Lib.hid hb; clear hb
    by_cases hlt : k < n
    · obtain ⟨b, off, rfl, hbb0, hx0, hx1⟩ := (HAT.out.below HB.out (Nat.le_refl _)).get k hlt
      have hbb : b < w.heap.size := by obtain ⟨b', off', e, h, _⟩ := HAT.out.get k hlt; cases e; exact h
      have hki : (k : Int) < n := by omega
      have hki0 : (0 : Int) ≤ k := by omega
      have ab : (Value.slice A' k c').ownBlock ≠ some b := fun h => by have := (HOWN.out.lt b h).1; omega
      have hbz : b < wr.heap.size := by have := HB.out.size; omega
      have hbz2 : w.heap.size ≤ wr.heap.size := HB.out.size
      clear hbb0
      go_wp2_with fail
      go_region_held3 (fun w' => w'.cell? ⟨b, off + k * 2, none⟩ = some (.int .i64 (f k 0)) ∧ w'.cell? ⟨b, off + k * 2 + 1, none⟩ = some (.int .i64 (f k 1)))
        (first
          | go_keep
          | (go_split_ands
             refine ⟨?_, ?_⟩
             all_goals (rw [hgrow.cell_far _ (by simp; omega) (Ne.symm ab)]; assumption)))
        ((refine step_append_lies _ (by rfl) _ _ _ (by rfl) w.heap.size 78 i0 _ 2 16 Try.underlying47 hi hz0 hz1 hz2 rfl (by omega) (.slice A' k c') k (rows2 f k) (by rfl) ((HOWN.out.alloc _).drew)
            ⟨wr.heap.size, 0, none⟩ 1 1 [.int .i64 (f k 0), .int .i64 (f k 1)] (by rfl) (by rfl) (World.news_of_block (cs := #[.int .i64 (f k 0), .int .i64 (f k 1)]) (t := 78) (fr := (0, 0)) (heap_alloc_new wr _)) (by simp [Value.oneCell'])
            (by omega) (by unfold maxLen; omega) (by omega) (by simp; omega) (wr.heap.size + 1) (by simp) ?_; intro gg cap w1 hown1 hgrow hat hlt))
      have hb1 : Below w.heap.size w w1 := ((HB.out.alloc HB.out.size _).drew).grown hgrow (by have := HB.out.size; simp; omega) (fun g hg => (HOWN.out.lt g hg).1)
      have HB1 := Lib.hid hb1; clear hb1
      have HOWN1 := Lib.hid hown1; clear hown1
      clear hgrow hat
      go_wp2
      go_roundw
      case rel => exact ⟨k + 1, some ⟨gg, 0, none⟩, cap, by omega, by go_num, rfl, by rw [rows2_succ]; exact HOWN1.out, HB1.out⟩
      case measure => simp [intOf]; omega
    · obtain rfl : k = n := by omega
      go_wp2
      go_ret
      exact ⟨⟨_, rfl, HOWN.out⟩, HB.out⟩

set_option maxHeartbeats 1000000 in
theorem oi.same_any (A : Option Addr) (c : Nat) (A2 : Option Addr) (n c2 : Nat) (f : Nat → Nat → Int) (w : World) (hn : n ≤ 1099511627776) (h1 : At2 w A n f) (h2 : At2 w A2 n f) :
    Calls Try.prog 24 #[.slice A n c, .slice A2 n c2] w fun e w' => e = .returned (.bool true) ∧ ∃ q, w' = w.drewN q := by
  have H1 := Lib.hid h1; clear h1
  have H2 := Lib.hid h2; clear h2
  go_enter Try.func24, Try.ntmps24
  go_wp2
  go_loopw [5] (fun i wr => ∃ k q : Nat, k ≤ n ∧ i = .int .i64 (k : Int) ∧ wr = w.drewN q) (fun i _ => n - (intOf i).toNat)
  case atStart => exact ⟨0, 0, by omega, rfl, rfl⟩
  case round =>
    obtain ⟨k, q, hk, rfl, rfl⟩ := hrel
    by_cases hlt : k < n
    · obtain ⟨b, off, rfl, hb, c0, c1⟩ := H1.out.get k hlt
      obtain ⟨b2, off2, rfl, hb2, d0, d1⟩ := H2.out.get k hlt
      go_wp2_with fail
      go_quiet (fail)
      go_wp2
      go_roundw
      case rel => exact ⟨k + 1, _, by omega, by go_num, rfl⟩
      case measure => simp [intOf]; omega
    · obtain rfl : k = n := by omega
      go_wp2
      go_ret
      exact ⟨rfl, _, rfl⟩

/-- Where Lookup begins: of the first k entries the last whose first number is not beyond o. -/
def oi.look (f : Nat → Nat → Int) (o : Int) : Nat → Int
  | 0 => 0
  | k + 1 => if f k 0 ≤ o then f k 1 else oi.look f o k
set_option maxHeartbeats 1000000 in
theorem oi.lookup_any (A : Option Addr) (n c : Nat) (f : Nat → Nat → Int) (o : Int) (w : World) (hn : n ≤ 1099511627776) (h1 : At2 w A n f) :
    Calls Try.prog 35 #[.slice A n c, .int .i64 o] w fun e w' => e = .returned (.int .i64 (oi.look f o n)) ∧ w' = w := by
  have H1 := Lib.hid h1; clear h1
  go_enter Try.func35, Try.ntmps35
  go_wp2
  go_loop [5] (fun i => ∃ k : Nat, k ≤ n ∧ i = .int .i64 ((k : Int) - 1) ∧ oi.look f o k = oi.look f o n) (fun i => (intOf i + 1).toNat)
  case atStart => exact ⟨n, by omega, rfl, rfl⟩
  case round =>
    obtain ⟨k, hk, rfl, he⟩ := hrel
    have HE := Lib.hid he; clear he
    cases k with
    | zero =>
      rw [show ((0 : Nat) : Int) - 1 = -1 by omega]
      have H0 := Lib.hid (show oi.look f o n = 0 from HE.out.symm)
      go_wp2
      go_ret
      exact ⟨by rw [H0.out]; rfl, rfl⟩
    | succ k =>
      rw [show ((k + 1 : Nat) : Int) - 1 = (k : Int) by omega]
      have hlt : k < n := by omega
      obtain ⟨b, off, rfl, hb, c0, c1⟩ := H1.out.get k hlt
      have he := HE.out
      rw [show oi.look f o (k + 1) = if f k 0 ≤ o then f k 1 else oi.look f o k from rfl] at he
      by_cases ho : f k 0 ≤ o
      · rw [if_pos ho] at he
        have HE2 := Lib.hid he; clear he
        go_wp2
        go_ret
        exact ⟨by rw [← HE2.out]; rfl, rfl⟩
      · rw [if_neg ho] at he
        have HE2 := Lib.hid he; clear he
        go_wp2
        go_round
        case rel => exact ⟨k, by omega, by go_num, HE2.out⟩
        case measure => simp [intOf]
end Go.Proofs.Ytmlkgealjbjlgaa

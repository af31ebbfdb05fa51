/- cordwainlaw6's awake answers true. -/
import Derived.Test.YtchdolcnhopmjaaApp2
import Derived.Test.YtchdolcnhopmjaaProg
import Derived.Deep.RegionHeld3
import Derived.Deep.AppendLies
import Derived.StillTailTactics
import Derived.Test.YtchdolcnhopmjaaWrX
import Derived.Test.YtchdolcnhopmjaaWrD
import Derived.Test.YtchdolcnhopmjaaRdZ
import Derived.Test.YtchdolcnhopmjaaRdB
namespace Go.Proofs.Ytchdolcnhopmjaa
open Go.RowKit

/-- Rows of two numbers, one behind the other. -/
def rows2 (f : Nat → Nat → Int) (n : Nat) : List Value := (List.range n).flatMap fun i => [.int .i64 (f i 0), .int .i64 (f i 1)]
theorem rows2_succ (f : Nat → Nat → Int) (n : Nat) : rows2 f (n + 1) = rows2 f n ++ [.int .i64 (f n 0), .int .i64 (f n 1)] := by
  unfold rows2; rw [List.range_succ, List.flatMap_append]; simp
theorem rows2_len (f : Nat → Nat → Int) (n : Nat) : (rows2 f n).length = n * 2 := by
  induction n with
  | zero => rfl
  | succ n ih => rw [rows2_succ, List.length_append, ih]; simp; omega
theorem rows2_get (f : Nat → Nat → Int) (n i j : Nat) (hi : i < n) (hj : j < 2) : (rows2 f n)[i * 2 + j]? = some (.int .i64 (f i j)) := by
  induction n with
  | zero => omega
  | succ n ih =>
    rw [rows2_succ]
    by_cases h : i < n
    · rw [List.getElem?_append_left (by rw [rows2_len]; omega)]
      exact ih h
    · obtain rfl : i = n := by omega
      rw [List.getElem?_append_right (by rw [rows2_len]; omega), rows2_len, show i * 2 + j - i * 2 = j by omega]
      match j with
      | 0 => rfl
      | 1 => rfl
      | j + 2 => omega
/-- A slice of rows of two numbers. -/
def At2 (w : World) (A : Option Addr) (n : Nat) (f : Nat → Nat → Int) : Prop := ∃ V, At w A (n * 2) V ∧ ∀ i j, i < n → j < 2 → V (i * 2 + j) = .int .i64 (f i j)
theorem At2.below {w w' : World} {A : Option Addr} {n B : Nat} {f : Nat → Nat → Int} (h : At2 w A n f) (hb : Below B w w') (hB : w.heap.size ≤ B) : At2 w' A n f := by
  obtain ⟨V, h1, h2⟩ := h
  exact ⟨V, h1.below hb hB, h2⟩
theorem At2.get {w : World} {A : Option Addr} {n : Nat} {f : Nat → Nat → Int} (h : At2 w A n f) (k : Nat) (hk : k < n) :
    ∃ b off, A = some ⟨b, off, none⟩ ∧ b < w.heap.size ∧ w.cell? ⟨b, off + k * 2, none⟩ = some (.int .i64 (f k 0)) ∧ w.cell? ⟨b, off + k * 2 + 1, none⟩ = some (.int .i64 (f k 1)) := by
  obtain ⟨V, h1, h2⟩ := h
  obtain ⟨b, off, hA, hb, hc⟩ := h1 (by omega)
  refine ⟨b, off, hA, hb, ?_, ?_⟩
  · have := h2 k 0 hk (by omega)
    rw [hc _ (by omega)]; exact congrArg some this
  · rw [Nat.add_assoc, hc _ (by omega), h2 k 1 hk (by omega)]
theorem own_at2 {w : World} {base e : Nat} {v : Value} {n : Nat} {f : Nat → Nat → Int} (h : w.ownsRow base e 2 v n (rows2 f n)) : ∃ A c, v = .slice A n c ∧ n ≤ c ∧ At2 w A n f := by
  obtain ⟨A, c, rfl, h1, h2⟩ := own_at h
  refine ⟨A, c, rfl, h1, _, h2, fun i j hi hj => ?_⟩
  simp only [List.getD, rows2_get f n i j hi hj, Option.getD_some]

theorem infoEnt : (Try.prog.info? 55).map (fun i => (i.zero, i.size, i.bytes)) = some (some (.agg #[.int .i64 0, .int .i64 0]), 2, 16) := by kernel_rfl

set_option maxHeartbeats 1000000 in
theorem oi.made_any (A : Option Addr) (n c : Nat) (f : Nat → Nat → Int) (w : World) (hn : n ≤ 1099511627776) (hat : At2 w A n f) :
    Calls Try.prog 12 #[.slice A n c] w fun e w' => (∃ v, e = .returned v ∧ w'.ownsRow w.heap.size 55 2 v n (rows2 f n)) ∧ Below w.heap.size w w' := by
  have HAT := Lib.hid hat; clear hat
  obtain ⟨i0, hi, hz0, hz1, hz2⟩ := info_parts infoEnt
  go_enter Try.func12, Try.ntmps12
  go_wp2
  go_loopw [3, 4] (fun v i wr => ∃ (k : Nat) (A' : Option Addr) (c' : Nat), k ≤ n ∧ i = .int .i64 k ∧ v = .slice A' k c' ∧ wr.ownsRow w.heap.size 55 2 v k (rows2 f k) ∧ Below w.heap.size w wr) (fun _ i _ => n - (intOf i).toNat)
  case atStart => exact ⟨0, none, 0, by omega, rfl, rfl, World.ownsRow_nil _ _ _ _, Below.refl _ _⟩
  case round =>
    obtain ⟨k, A', c', hk, rfl, rfl, hown, hb⟩ := hrel
    have HOWN := Lib.hid hown; clear hown
    have HB := Lib.hid hb; clear hb
    by_cases hlt : k < n
    · obtain ⟨b, off, rfl, hbb0, hx0, hx1⟩ := (HAT.out.below HB.out (Nat.le_refl _)).get k hlt
      have hbb : b < w.heap.size := by obtain ⟨b', off', e, h, _⟩ := HAT.out.get k hlt; cases e; exact h
      have hki : (k : Int) < n := by omega
      have hki0 : (0 : Int) ≤ k := by omega
      have ab : (Value.slice A' k c').ownBlock ≠ some b := fun h => by have := (HOWN.out.lt b h).1; omega
      have hbz : b < wr.heap.size := by have := HB.out.size; omega
      have hbz2 : w.heap.size ≤ wr.heap.size := HB.out.size
      clear hbb0
      go_wp2_with fail
      go_region_held3 (fun w' => w'.cell? ⟨b, off + k * 2, none⟩ = some (.int .i64 (f k 0)) ∧ w'.cell? ⟨b, off + k * 2 + 1, none⟩ = some (.int .i64 (f k 1)))
        (first
          | go_keep
          | (go_split_ands
             refine ⟨?_, ?_⟩
             all_goals (rw [hgrow.cell_far _ (by simp; omega) (Ne.symm ab)]; assumption)))
        ((refine step_append_lies _ (by rfl) _ _ _ (by rfl) w.heap.size 55 i0 _ 2 16 Try.underlying30 hi hz0 hz1 hz2 rfl (by omega) (.slice A' k c') k (rows2 f k) (by rfl) ((HOWN.out.alloc _).drew)
            ⟨wr.heap.size, 0, none⟩ 1 1 [.int .i64 (f k 0), .int .i64 (f k 1)] (by rfl) (by rfl) (World.news_of_block (cs := #[.int .i64 (f k 0), .int .i64 (f k 1)]) (t := 55) (fr := (0, 0)) (heap_alloc_new wr _)) (by simp [Value.oneCell'])
            (by omega) (by unfold maxLen; omega) (by omega) (by simp; omega) (wr.heap.size + 1) (by simp) ?_; intro gg cap w1 hown1 hgrow hat hlt))
      have hb1 : Below w.heap.size w w1 := ((HB.out.alloc HB.out.size _).drew).grown hgrow (by have := HB.out.size; simp; omega) (fun g hg => (HOWN.out.lt g hg).1)
      have HB1 := Lib.hid hb1; clear hb1
      have HOWN1 := Lib.hid hown1; clear hown1
      clear hgrow hat
      go_wp2
      go_roundw
      case rel => exact ⟨k + 1, some ⟨gg, 0, none⟩, cap, by omega, by go_num, rfl, by rw [rows2_succ]; exact HOWN1.out, HB1.out⟩
      case measure => simp [intOf]; omega
    · obtain rfl : k = n := by omega
      go_wp2
      go_ret
      exact ⟨⟨_, rfl, HOWN.out⟩, HB.out⟩

set_option maxHeartbeats 1000000 in
theorem oi.same_any (A : Option Addr) (c : Nat) (A2 : Option Addr) (n c2 : Nat) (f : Nat → Nat → Int) (w : World) (hn : n ≤ 1099511627776) (h1 : At2 w A n f) (h2 : At2 w A2 n f) :
    Calls Try.prog 18 #[.slice A n c, .slice A2 n c2] w fun e w' => e = .returned (.bool true) ∧ ∃ q, w' = w.drewN q := by
  have H1 := Lib.hid h1; clear h1
  have H2 := Lib.hid h2; clear h2
  go_enter Try.func18, Try.ntmps18
  go_wp2
  go_loopw [5] (fun i wr => ∃ k q : Nat, k ≤ n ∧ i = .int .i64 (k : Int) ∧ wr = w.drewN q) (fun i _ => n - (intOf i).toNat)
  case atStart => exact ⟨0, 0, by omega, rfl, rfl⟩
  case round =>
    obtain ⟨k, q, hk, rfl, rfl⟩ := hrel
    by_cases hlt : k < n
    · obtain ⟨b, off, rfl, hb, c0, c1⟩ := H1.out.get k hlt
      obtain ⟨b2, off2, rfl, hb2, d0, d1⟩ := H2.out.get k hlt
      go_wp2_with fail
      go_quiet (fail)
      go_wp2
      go_roundw
      case rel => exact ⟨k + 1, _, by omega, by go_num, rfl⟩
      case measure => simp [intOf]; omega
    · obtain rfl : k = n := by omega
      go_wp2
      go_ret
      exact ⟨rfl, _, rfl⟩

/-- Where Lookup begins: of the first k entries the last whose first number is not beyond o. -/
def oi.look (f : Nat → Nat → Int) (o : Int) : Nat → Int
  | 0 => 0
  | k + 1 => if f k 0 ≤ o then f k 1 else oi.look f o k
set_option maxHeartbeats 1000000 in
theorem oi.lookup_any (A : Option Addr) (n c : Nat) (f : Nat → Nat → Int) (o : Int) (w : World) (hn : n ≤ 1099511627776) (h1 : At2 w A n f) :
    Calls Try.prog 20 #[.slice A n c, .int .i64 o] w fun e w' => e = .returned (.int .i64 (oi.look f o n)) ∧ w' = w := by
  have H1 := Lib.hid h1; clear h1
  go_enter Try.func20, Try.ntmps20
  go_wp2
  go_loop [5] (fun i => ∃ k : Nat, k ≤ n ∧ i = .int .i64 ((k : Int) - 1) ∧ oi.look f o k = oi.look f o n) (fun i => (intOf i + 1).toNat)
  case atStart => exact ⟨n, by omega, rfl, rfl⟩
  case round =>
    obtain ⟨k, hk, rfl, he⟩ := hrel
    have HE := Lib.hid he; clear he
    cases k with
    | zero =>
      rw [show ((0 : Nat) : Int) - 1 = -1 by omega]
      have H0 := Lib.hid (show oi.look f o n = 0 from HE.out.symm)
      go_wp2
      go_ret
      exact ⟨by rw [H0.out]; rfl, rfl⟩
    | succ k =>
      rw [show ((k + 1 : Nat) : Int) - 1 = (k : Int) by omega]
      have hlt : k < n := by omega
      obtain ⟨b, off, rfl, hb, c0, c1⟩ := H1.out.get k hlt
      have he := HE.out
      rw [show oi.look f o (k + 1) = if f k 0 ≤ o then f k 1 else oi.look f o k from rfl] at he
      by_cases ho : f k 0 ≤ o
      · rw [if_pos ho] at he
        have HE2 := Lib.hid he; clear he
        go_wp2
        go_ret
        exact ⟨by rw [← HE2.out]; rfl, rfl⟩
      · rw [if_neg ho] at he
        have HE2 := Lib.hid he; clear he
        go_wp2
        go_round
        case rel => exact ⟨k, by omega, by go_num, HE2.out⟩
        case measure => simp [intOf]

/-- The entry ahead of entry k; entry k may not stand there. -/
def oi.pre (f : Nat → Nat → Int) : Nat → Nat → Int
  | 0, _ => -1
  | k + 1, j => f k j
def oi.bad (f : Nat → Nat → Int) (k : Nat) : Prop := f k 0 ≤ oi.pre f k 0 ∨ f k 1 ≤ oi.pre f k 1
theorem oi.pre_ge (f : Nat → Nat → Int) : ∀ k, (∀ j, j < k → ¬ oi.bad f j) → -1 ≤ oi.pre f k 0 ∧ -1 ≤ oi.pre f k 1
  | 0, _ => ⟨Int.le_refl _, Int.le_refl _⟩
  | k + 1, h => by
    have ih := oi.pre_ge f k fun j hj => h j (by omega)
    have hk := h k (by omega)
    unfold oi.bad at hk
    show -1 ≤ f k 0 ∧ -1 ≤ f k 1
    omega
/-- Entries, as bytes. -/
def oi.enc1 (f : Nat → Nat → Int) (k : Nat) : List Nat := wire.be (f k 0).toNat 8 ++ wire.be (f k 1).toNat 8
def oi.enc (f : Nat → Nat → Int) : Nat → List Nat
  | 0 => []
  | k + 1 => oi.enc f k ++ oi.enc1 f k
theorem oi.enc1_len (f : Nat → Nat → Int) (k : Nat) : (oi.enc1 f k).length = 16 := by unfold oi.enc1; rw [List.length_append, wire.be_len, wire.be_len]
theorem oi.enc_len (f : Nat → Nat → Int) (n : Nat) : (oi.enc f n).length = 16 * n := by
  induction n with
  | zero => rfl
  | succ n ih => rw [oi.enc, List.length_append, ih, oi.enc1_len]; omega
theorem oi.fit8 {n : Int} (h : 0 ≤ n) : wire.fit n 8 = true := by
  unfold wire.fit
  simp
  omega

theorem ownsRow_base2 {W : World} {b b' : Nat} {e : TypeId} {size : Nat} {v : Value} {k : Nat} {xs : List Value} (h : W.ownsRow b e size v k xs) (hb : b' ≤ b) : W.ownsRow b' e size v k xs := by
  refine ⟨h.1, ?_⟩
  rcases h.2 with h2 | ⟨g, cap, cur, h1, h3, h4⟩
  · exact .inl h2
  · exact .inr ⟨g, cap, cur, h1, Nat.le_trans hb h3, h4⟩
def oi.EncPost (w : World) (f : Nat → Nat → Int) (n : Nat) (e : Ending) (w' : World) : Prop :=
  (((∀ j, j < n → ¬ oi.bad f j) ∧ ∃ v, e = .returned (.tuple #[v, .int .i64 0]) ∧ w'.ownsRow w.heap.size 5 1 v (oi.enc f n).length (u8s (oi.enc f n))) ∨
    ((∃ k, k < n ∧ oi.bad f k ∧ ∀ j, j < k → ¬ oi.bad f j) ∧ e = .returned (.tuple #[.slice none 0 0, .int .i64 1]))) ∧ Below w.heap.size w w'

/-- As the loop goes: the entry ahead at p, the writer behind it. -/
def oi.EncRel (w : World) (p : Nat) (f : Nat → Nat → Int) (k : Nat) (wr : World) : Prop :=
  ∃ v, Blk wr p 55 #[.int .i64 (oi.pre f k 0), .int .i64 (oi.pre f k 1)] ∧ Wr wr (p + 1) (p + 1) v (oi.enc f k) false ∧ Below w.heap.size w wr ∧ ∀ j, j < k → ¬ oi.bad f j

set_option maxRecDepth 20000 in
set_option maxHeartbeats 1000000 in
theorem oi.encode_any (A : Option Addr) (n c : Nat) (f : Nat → Nat → Int) (w : World) (hn : n ≤ 1000) (hat : At2 w A n f) (hf : ∀ i j, i < n → j < 2 → -9223372036854775808 ≤ f i j ∧ f i j ≤ 9223372036854775807) :
    Calls Try.prog 11 #[.slice A n c] w (oi.EncPost w f n) := by
  have HAT := Lib.hid hat; clear hat
  have HF := Lib.hid hf; clear hf
  go_enter Try.func11, Try.ntmps11
  go_wp2
  go_loopw [13] (fun i wr => ∃ k : Nat, k ≤ n ∧ i = .int .i64 (k : Int) ∧ oi.EncRel w w.heap.size f k wr) (fun i _ => n - (intOf i).toNat)
  case atStart =>
    refine ⟨0, by omega, rfl, .slice none 0 0, ?_, ?_, ((Below.refl _ w).alloc (Nat.le_refl _) _).alloc (by simp) _, fun j hj => absurd hj (by omega)⟩
    · exact (Below.heap_alloc _ _ _ (by simp)).trans (Blk.new w 55 #[.int .i64 (-1), .int .i64 (-1)])
    · have := Wr.new (w.alloc (.cells #[.int .i64 (-1), .int .i64 (-1)] 55))
      rw [World.size_alloc] at this
      exact this
  case round =>
    obtain ⟨k, hk, rfl, v, hp, hw, hb, hok⟩ := hrel
    have HW := Lib.hid hw; clear hw
    have HB := Lib.hid hb; clear hb
    have HOK := Lib.hid hok; clear hok
    have hpz : w.heap.size < wr.heap.size := hp.lt
    by_cases hlt : k < n
    · obtain ⟨b, off, rfl, hbb, c0, c1⟩ := (HAT.out.below HB.out (Nat.le_refl _)).get k hlt
      have p0 := hp.cell 0 (v := .int .i64 (oi.pre f k 0)) rfl
      have p1 := hp.cell 1 (v := .int .i64 (oi.pre f k 1)) rfl
      have hpre := oi.pre_ge f k HOK.out
      by_cases hbad : oi.bad f k
      · have HBAD := Lib.hid hbad
        rcases hbad with g0 | g1
        · go_wp2
          go_ret2
          exact ⟨.inr ⟨⟨k, hlt, HBAD.out, HOK.out⟩, rfl⟩, HB.out.alloc (by omega) _⟩
        · by_cases g0 : f k 0 ≤ oi.pre f k 0
          all_goals
            go_wp2
            go_ret2
            exact ⟨.inr ⟨⟨k, hlt, HBAD.out, HOK.out⟩, rfl⟩, HB.out.alloc (by omega) _⟩
      · have g0 : ¬ f k 0 ≤ oi.pre f k 0 := fun h => hbad (.inl h)
        have g1 : ¬ f k 1 ≤ oi.pre f k 1 := fun h => hbad (.inr h)
        have HBAD := Lib.hid hbad; clear hbad
        obtain ⟨a0, ha0⟩ := Int.eq_ofNat_of_zero_le (show 0 ≤ f k 0 by omega)
        obtain ⟨a1, ha1⟩ := Int.eq_ofNat_of_zero_le (show 0 ≤ f k 1 by omega)
        have hfb0 := HF.out k 0 hlt (by omega)
        have hfb1 := HF.out k 1 hlt (by omega)
        have henc : oi.enc f (k + 1) = oi.enc f k ++ wire.be a0 8 ++ wire.be a1 8 := by
          rw [oi.enc, oi.enc1, ha0, ha1, List.append_assoc]; rfl
        have HENC := Lib.hid henc; clear henc
        have hpre1 : ∀ (v : Value), v = .int .i64 (a0 : Int) → v = .int .i64 (oi.pre f (k + 1) 0) := fun v h => by rw [h]; exact congrArg (Value.int .i64) ha0.symm
        have hpre2 : ∀ (v : Value), v = .int .i64 (a1 : Int) → v = .int .i64 (oi.pre f (k + 1) 1) := fun v h => by rw [h]; exact congrArg (Value.int .i64) ha1.symm
        have HP1 := Lib.hid hpre1; clear hpre1
        have HP2 := Lib.hid hpre2; clear hpre2
        have hfit0 : wire.fit (a0 : Int) 8 = true := oi.fit8 (by omega)
        have hfit1 : wire.fit (a1 : Int) 8 = true := oi.fit8 (by omega)
        have HFIT := Lib.hid (And.intro hfit0 hfit1); clear hfit0 hfit1
        rw [ha0] at c0 g0 hfb0
        rw [ha1] at c1 g1 hfb1
        clear ha0 ha1
        generalize oi.pre f k 0 = r0 at *
        generalize oi.pre f k 1 = r1 at *
        have hLk : (oi.enc f k).length = 16 * k := oi.enc_len f k
        generalize oi.enc f k = E at *
        go_wp2_with fail
        obtain ⟨q, hq⟩ : ∃ q, q = wr.heap.size := ⟨_, rfl⟩
        have hx : Blk (wr.alloc (.cells #[.int .i64 (a0 : Int), .int .i64 (a1 : Int)] 55)) q 55 #[.int .i64 (a0 : Int), .int .i64 (a1 : Int)] := by rw [hq]; exact Blk.new _ _ _
        have hwq := HW.out.alloc (.cells #[.int .i64 (a0 : Int), .int .i64 (a1 : Int)] 55)
        have hbq := HB.out.alloc HB.out.size (.cells #[.int .i64 (a0 : Int), .int .i64 (a1 : Int)] 55)
        have hpq : Blk (wr.alloc (.cells #[.int .i64 (a0 : Int), .int .i64 (a1 : Int)] 55)) w.heap.size 55 #[.int .i64 r0, .int .i64 r1] := (Below.heap_alloc _ _ _ hpz).trans hp
        have hqp : ∀ u : Value, Wr (wr.alloc (.cells #[.int .i64 (a0 : Int), .int .i64 (a1 : Int)] 55)) (w.heap.size + 1) (w.heap.size + 1) u E false → q ≠ w.heap.size + 1 := fun u h => by have := HW.out.blk.lt; omega
        have hqne := hqp v hwq
        clear hqp
        rw [← hq] at *
        generalize wr.alloc (.cells #[.int .i64 (a0 : Int), .int .i64 (a1 : Int)] 55) = wq at *
        clear hp p0 p1 c0 c1 HW HB hq
        have hx0 := hx.cell 0 (v := .int .i64 (a0 : Int)) rfl
        have hx1 := hx.cell 1 (v := .int .i64 (a1 : Int)) rfl
        have hne : (55 : Nat) ≠ 5 := by decide
        have hstep : ∀ (wA wB : World) (u : Value) (L M : List Nat), Wr wA (w.heap.size + 1) (w.heap.size + 1) u L false → Blk wA q 55 #[.int .i64 (a0 : Int), .int .i64 (a1 : Int)] → Blk wA w.heap.size 55 #[.int .i64 r0, .int .i64 r1] → Below w.heap.size w wA →
            WrDone wA (w.heap.size + 1) (w.heap.size + 1) u M false wB → ∃ u', Wr wB (w.heap.size + 1) (w.heap.size + 1) u' M false ∧ Blk wB q 55 #[.int .i64 (a0 : Int), .int .i64 (a1 : Int)] ∧ Blk wB w.heap.size 55 #[.int .i64 r0, .int .i64 r1] ∧ Below w.heap.size w wB := by
          rintro wA wB u L M h1 h2 h3 h4 ⟨u', h5, h6, -⟩
          refine ⟨u', h5, h6.blk h2 ?_, h6.blk h3 ?_, h4.trans ((h1.below h6).mono (by omega))⟩
          · rintro (h | h)
            · exact hqne h
            · exact h2.not_row hne h1.row h
          · rintro (h | h)
            · omega
            · exact h3.not_row hne h1.row h
        have HST := Lib.hid hstep; clear hstep
        have HX := Lib.hid hx; clear hx
        have HPQ := Lib.hid hpq; clear hpq
        have HW := Lib.hid hwq; clear hwq
        have HB := Lib.hid hbq; clear hbq
        go_region_law
          (first
            | (go_simp; go_at_call 31; refine (wire.fixed_any (w.heap.size + 1) (w.heap.size + 1) u1 (E ++ wire.be a0 8) false a1 8 _ HW1.out (by rw [List.length_append, wire.be_len]; omega) (by omega) (by omega) HFIT.out.2 (by omega)).mono ?_; rintro e w2 ⟨rfl, hd2⟩; obtain ⟨u2', hw2, hx2, hp2, hb2⟩ := HST.out _ _ _ _ _ HW1.out HX1.out HPQ1.out HB1.out hd2; have hy0 := hx2.cell 0 (v := .int .i64 (a0 : Int)) rfl; have hy1 := hx2.cell 1 (v := .int .i64 (a1 : Int)) rfl; have hz0 := hp2.cell 0 (v := .int .i64 r0) rfl; have hz1 := hp2.cell 1 (v := .int .i64 r1) rfl; have hzf0 := hp2.frozen 0; have hzf1 := hp2.frozen 1; have HW2 := Lib.hid hw2; have HP2' := Lib.hid hp2; have HB2 := Lib.hid hb2; clear hw2 hx2 hp2 hb2 hd2)
            | (go_simp; go_at_call 31; refine (wire.fixed_any (w.heap.size + 1) (w.heap.size + 1) v E false a0 8 _ HW.out.drew (by omega) (by omega) (by omega) HFIT.out.1 (by omega)).mono ?_; rintro e w1 ⟨rfl, hd1⟩; obtain ⟨u1, hw1, hxx1, hp1, hb1⟩ := HST.out _ _ _ _ _ HW.out.drew (HX.out.drew 1) (HPQ.out.drew 1) (bdrew HB.out 1) hd1; have hy0 := hxx1.cell 0 (v := .int .i64 (a0 : Int)) rfl; have hy1 := hxx1.cell 1 (v := .int .i64 (a1 : Int)) rfl; have HW1 := Lib.hid hw1; have HX1 := Lib.hid hxx1; have HPQ1 := Lib.hid hp1; have HB1 := Lib.hid hb1; clear hw1 hxx1 hp1 hb1 hd1))
        all_goals
          go_wp2
          go_roundw
          case rel =>
            refine ⟨k + 1, by omega, by go_num, u2', ?_, ?_, (HB2.out.setCell (p := ⟨w.heap.size, 0, none⟩) (Nat.le_refl _) _).setCell (p := ⟨w.heap.size, 1, none⟩) (Nat.le_refl _) _, fun j hj => ?_⟩
            · have h := (HP2'.out.set 0 (.int .i64 (a0 : Int))).set 1 (.int .i64 (a1 : Int))
              rw [← HP1.out _ rfl, ← HP2.out _ rfl]
              exact h
            · rw [HENC.out]
              have hrow : ∀ k, u2'.ownBlock = some k → ¬ k = w.heap.size := fun k h e => by have := (HW2.out.row.lt k h).1; omega
              exact (HW2.out.chg (Chg.setCell w2 w.heap.size 0 (.int .i64 (a0 : Int))) (by omega) hrow).chg (Chg.setCell _ w.heap.size 1 (.int .i64 (a1 : Int))) (by omega) hrow
            · by_cases hjk : j < k
              · exact HOK.out j hjk
              · obtain rfl : j = k := by omega
                exact HBAD.out
          case measure => simp [intOf]; omega
    · obtain rfl : k = n := by omega
      go_wp2_with fail
      refine (wire.done_any _ _ v _ wr HW.out (by rw [oi.enc_len]; omega)).mono ?_
      rintro e w2 ⟨⟨u, rfl, hown⟩, hb2⟩
      have HO := Lib.hid (ownsRow_base2 hown HB.out.size); clear hown
      have HB2 := Lib.hid (HB.out.trans (hb2.mono HB.out.size)); clear hb2
      go_wp2
      go_ret2
      exact ⟨.inl ⟨HOK.out, _, rfl, HO.out⟩, HB2.out⟩

theorem oi.enc_byte (f : Nat → Nat → Int) (n : Nat) : ∀ x ∈ oi.enc f n, x < 256 := by
  induction n with
  | zero => intro x h; cases h
  | succ n ih =>
    intro x h
    rcases List.mem_append.1 h with h | h
    · exact ih x h
    · rcases List.mem_append.1 h with h | h
      · exact wire.be_byte _ _ x h
      · exact wire.be_byte _ _ x h
theorem oi.enc_split (f : Nat → Nat → Int) (k : Nat) : ∀ n, k ≤ n → ∃ R, oi.enc f n = oi.enc f k ++ R
  | 0, h => ⟨[], by obtain rfl : k = 0 := by omega
                    rfl⟩
  | n + 1, h => by
    by_cases e : k = n + 1
    · exact ⟨[], by rw [e, List.append_nil]⟩
    · obtain ⟨R, hR⟩ := oi.enc_split f k n (by omega)
      exact ⟨R ++ oi.enc1 f n, by rw [oi.enc, hR, List.append_assoc]⟩
theorem oi.enc_drop (f : Nat → Nat → Int) (n k : Nat) (T : List Nat) (hk : k < n) :
    (oi.enc f n ++ T).drop (16 * k) = wire.be (f k 0).toNat 8 ++ (wire.be (f k 1).toNat 8 ++ (oi.enc f n ++ T).drop (16 * (k + 1))) := by
  obtain ⟨R, hR⟩ := oi.enc_split f (k + 1) n (by omega)
  have e : oi.enc f n ++ T = oi.enc f (k + 1) ++ (R ++ T) := by rw [hR, List.append_assoc]
  rw [e, List.drop_left' (oi.enc_len f (k + 1))]
  rw [oi.enc, List.append_assoc, List.drop_left' (oi.enc_len f k), oi.enc1, List.append_assoc]
theorem oi.fixed8 (a : Nat) (R : List Nat) (ha : (a : Int) ≤ 9223372036854775807) : ¬ rd.fbad (wire.be a 8 ++ R) ((8 : Nat) : Int) ∧ wire.val ((wire.be a 8 ++ R).take 8) = a ∧ (wire.be a 8 ++ R).drop 8 = R := by
  have h := rd.fixed_be a 8 R (oi.fit8 (by omega)) ha
  unfold rd.fixed at h
  rw [if_neg (by simp)] at h
  by_cases hb : rd.fbad (wire.be a 8 ++ R) ((8 : Nat) : Int)
  · rw [if_pos hb] at h
    simp at h
  · rw [if_neg hb] at h
    simp only [Prod.mk.injEq, Int.toNat_natCast] at h
    exact ⟨hb, by have := h.1; omega, h.2.1⟩
theorem ent_one (x y : Int) : ∀ j, j < 1 * 2 → ((#[Value.int .i64 x, .int .i64 y] : Array Value).getD j undef).oneCell' = true
  | 0, _ => rfl
  | 1, _ => rfl
  | j + 2, h => by omega
theorem ent_cells (x y : Int) : cellsOf (1 * 2) (fun j => (#[Value.int .i64 x, .int .i64 y] : Array Value).getD j undef) = [.int .i64 x, .int .i64 y] := rfl
theorem oi.short (T : List Nat) (h : T.length < 8) : rd.fixed T 0 8 = (0, [], 2) := by
  unfold rd.fixed
  rw [if_neg (by simp), if_pos]
  unfold rd.fbad
  omega
theorem rd.fixed_err (L : List Nat) (e n : Int) (h : e ≠ 0) : rd.fixed L e n = (0, L, e) := by
  unfold rd.fixed
  rw [if_pos h]

def oi.lenOf : Value → Nat
  | .slice _ n _ => n
  | _ => 0
def oi.DecPost (w : World) (f : Nat → Nat → Int) (n : Nat) (T : List Nat) (e : Ending) (w' : World) : Prop :=
  ((T = [] ∧ ∃ v, e = .returned (.tuple #[v, .int .i64 0]) ∧ w'.ownsRow w.heap.size 55 2 v n (rows2 f n)) ∨ (T ≠ [] ∧ e = .returned (.tuple #[.slice none 0 0, .int .i64 2]))) ∧ Below w.heap.size w w'

/-- As the loop goes: the entry ahead at p, the reader r, what is gathered. -/
def oi.DecRel (w : World) (A : Option Addr) (p r : Nat) (f : Nat → Nat → Int) (n : Nat) (T : List Nat) (k : Nat) (u : Value) (wr : World) : Prop :=
  Blk wr p 55 #[.int .i64 (oi.pre f k 0), .int .i64 (oi.pre f k 1)] ∧ RdNear wr r A ((oi.enc f n ++ T).drop (16 * k)) 0 ∧ wr.ownsRow (r + 1) 55 2 u k (rows2 f k) ∧ Below w.heap.size w wr

/-- Inside a round: the entry ahead at p, the new one at q, the reader r, what is gathered. -/
structure oi.St (w : World) (A : Option Addr) (p r q : Nat) (r0 r1 x y : Int) (L : List Nat) (u : Value) (k : Nat) (rows : List Value) (W : World) : Prop where
  pre : Blk W p 55 #[.int .i64 r0, .int .i64 r1]
  ent : Blk W q 55 #[.int .i64 x, .int .i64 y]
  rd : RdNear W r A L 0
  low : ∀ a, A = some a → a.block < w.heap.size
  own : W.ownsRow (r + 1) 55 2 u k rows
  bel : Below w.heap.size w W
  qr : q ≠ r
  qp : q ≠ p
  pr : p < r
  qu : u.ownBlock ≠ some q
  wp : w.heap.size ≤ p
  wq : w.heap.size ≤ q
theorem oi.St.fixed {w : World} {A : Option Addr} {p r q : Nat} {r0 r1 x y : Int} {L L' : List Nat} {u : Value} {k : Nat} {rows : List Value} {W W' : World} (h : oi.St w A p r q r0 r1 x y L u k rows W) (hc : Chg W W' (rdT r)) (hr : RdNear W' r A L' 0) :
    oi.St w A p r q r0 r1 x y L' u k rows W' :=
  { h with pre := hc.blk h.pre (show ¬ p = r by have := h.pr; omega), ent := hc.blk h.ent h.qr, rd := hr,
           own := hc.own h.own (fun j hj e => by have := (h.own.lt j hj).1; have e' : j = r := e; omega),
           bel := h.bel.trans (hc.below h.bel.size fun j hj => by have e' : j = r := hj; have := h.wp; have := h.pr; omega) }
theorem RdNear.ints {w : World} {r : Nat} {A0 : Option Addr} {L : List Nat} {e : Int} (h : RdNear w r A0 L e) {q : Nat} {T : TypeId} {x y : Int} (hb : Blk w q T #[.int .i64 x, .int .i64 y]) (hne : q ≠ r) (j : Nat) (v : Value) : RdNear (w.setCell ⟨q, j, none⟩ v) r A0 L e := by
  obtain ⟨A, c, h, hnear⟩ := h
  have hc := Chg.setCell w q j v
  refine ⟨A, c, ⟨hc.blk h.blk (fun e => hne e.symm), hc.at' h.lie fun hm b off hA => ?_, h.len, h.cap, h.byte⟩, hnear⟩
  exact h.lie.not_blk hm hb (fun i z hi => by
    rcases i with _ | _ | i
    · simp at hi; subst hi; unfold byteAt; simp
    · simp at hi; subst hi; unfold byteAt; simp
    · simp at hi) b off hA
theorem oi.St.set0 {w : World} {A : Option Addr} {p r q : Nat} {r0 r1 x y : Int} {L : List Nat} {u : Value} {k : Nat} {rows : List Value} {W : World} (h : oi.St w A p r q r0 r1 x y L u k rows W) (z : Int) :
    oi.St w A p r q r0 r1 z y L u k rows (W.setCell ⟨q, 0, none⟩ (.int .i64 z)) :=
  have hc := Chg.setCell W q 0 (.int .i64 z)
  { h with pre := hc.blk h.pre (fun e => h.qp e.symm), ent := h.ent.set 0 _, rd := h.rd.ints h.ent h.qr 0 _, own := hc.own h.own (fun j hj e => h.qu (by rw [hj, show j = q from e])), bel := h.bel.setCell (p := ⟨q, 0, none⟩) h.wq _ }
theorem oi.St.set1 {w : World} {A : Option Addr} {p r q : Nat} {r0 r1 x y : Int} {L : List Nat} {u : Value} {k : Nat} {rows : List Value} {W : World} (h : oi.St w A p r q r0 r1 x y L u k rows W) (z : Int) :
    oi.St w A p r q r0 r1 x z L u k rows (W.setCell ⟨q, 1, none⟩ (.int .i64 z)) :=
  have hc := Chg.setCell W q 1 (.int .i64 z)
  { h with pre := hc.blk h.pre (fun e => h.qp e.symm), ent := h.ent.set 1 _, rd := h.rd.ints h.ent h.qr 1 _, own := hc.own h.own (fun j hj e => h.qu (by rw [hj, show j = q from e])), bel := h.bel.setCell (p := ⟨q, 1, none⟩) h.wq _ }

theorem oi.St.grown {w : World} {A : Option Addr} {p r q : Nat} {r0 r1 x y : Int} {L : List Nat} {u u' : Value} {k k' : Nat} {rows rows' : List Value} {W W' : World} {o : Obj} (h : oi.St w A p r q r0 r1 x y L u k rows W) (hg : (W.alloc o).grownBy W' u.ownBlock) (hl : Lies (W.alloc o) u u')
    (hown : W'.ownsRow (r + 1) 55 2 u' k' rows') : oi.St w A p r q r0 r1 x y L u' k' rows' W' := by
  have hc : Chg W W' (fun j => u.ownBlock = some j) := ((Chg.alloc W o (fun _ => False)).mono (Q := fun j => u.ownBlock = some j) fun _ _ h => h.elim).trans (Chg.grown hg) fun _ _ e => e
  have hcu : ∀ j, u.ownBlock = some j → r + 1 ≤ j := fun j e => (h.own.lt j e).1
  have hpr := h.pr
  refine { h with pre := hc.blk h.pre (fun e => by have := hcu p e; omega), ent := hc.blk h.ent h.qu, rd := ?_, own := hown, bel := ?_, qu := ?_ }
  · obtain ⟨A2, c, hr, hnear⟩ := h.rd
    refine ⟨A2, c, ⟨hc.blk hr.blk (fun e => by have := hcu r e; omega), hc.at' hr.lie (fun hm b off hA e => ?_), hr.len, hr.cap, hr.byte⟩, hnear⟩
    obtain ⟨a, ha, hab⟩ := hnear _ hA
    have h1 := h.low a ha
    have h2 := hcu b e
    have h3 := h.wp
    have hab' : a.block = b := hab
    omega
  · exact h.bel.trans (hc.below h.bel.size fun j e => by have := hcu j e; have := h.wp; omega)
  · rcases hl with hl | hl
    · rw [hl]; exact h.qu
    · rw [hl]
      intro e
      have := h.ent.lt
      simp at e
      omega
theorem oi.St.setp {w : World} {A : Option Addr} {p r q : Nat} {r0 r1 x y : Int} {L : List Nat} {u : Value} {k : Nat} {rows : List Value} {W : World} (h : oi.St w A p r q r0 r1 x y L u k rows W) :
    oi.St w A p r q x y x y L u k rows ((W.setCell ⟨p, 0, none⟩ (.int .i64 x)).setCell ⟨p, 1, none⟩ (.int .i64 y)) := by
  have hc := Chg.setCell W p 0 (.int .i64 x)
  have hc2 := Chg.setCell (W.setCell ⟨p, 0, none⟩ (.int .i64 x)) p 1 (.int .i64 y)
  have hpr := h.pr
  have hrow : ∀ j, u.ownBlock = some j → ¬ j = p := fun j hj e => by have := (h.own.lt j hj).1; omega
  exact { h with pre := (h.pre.set 0 _).set 1 _, ent := hc2.blk (hc.blk h.ent h.qp) h.qp, rd := (h.rd.ints h.pre (by omega) 0 _).ints (h.pre.set 0 _) (by omega) 1 _, own := hc2.own (hc.own h.own hrow) hrow,
                 bel := (h.bel.setCell (p := ⟨p, 0, none⟩) h.wp _).setCell (p := ⟨p, 1, none⟩) h.wp _ }

set_option maxRecDepth 20000 in
set_option maxHeartbeats 1000000 in
theorem oi.decode_any (A : Option Addr) (m c n : Nat) (f : Nat → Nat → Int) (T : List Nat) (w : World) (hn : n ≤ 1000) (hT : T.length < 8) (hTb : ∀ x ∈ T, x < 256) (hf : ∀ i j, i < n → j < 2 → -9223372036854775808 ≤ f i j ∧ f i j ≤ 9223372036854775807)
    (hok : ∀ j, j < n → ¬ oi.bad f j) (hm : (oi.enc f n ++ T).length = m) (hat : At w A m (byteAt (oi.enc f n ++ T))) (hc : m ≤ c ∧ c ≤ maxLen) :
    Calls Try.prog 14 #[.slice A m c] w (oi.DecPost w f n T) := by
  obtain ⟨i0, hi, hz0, hz1, hz2⟩ := info_parts infoEnt
  have HF := Lib.hid hf; clear hf
  have HOK := Lib.hid hok; clear hok
  have hlow : 0 < m → ∀ a, A = some a → a.block < w.heap.size := fun h a ha => by
    obtain ⟨b, off, hA, hb, _⟩ := hat h
    rw [ha] at hA
    cases hA
    exact hb
  have HLOW := Lib.hid hlow; clear hlow
  have hbor := fun w' (hb : Below w.heap.size w w') => wire.borrow_at A c (oi.enc f n ++ T) w' (by rw [hm]; exact hat.below hb (Nat.le_refl _)) (by rw [hm]; exact hc.1) hc.2 (fun x hx => by
    rcases List.mem_append.1 hx with h | h
    · exact oi.enc_byte f n x h
    · exact hTb x h)
  rw [hm] at hbor
  have HBOR := Lib.hid hbor; clear hbor hat hTb
  have HM := Lib.hid hm; clear hm
  go_enter Try.func14, Try.ntmps14
  go_wp2_with fail
  refine (HBOR.out _ ((Below.refl _ w).alloc (Nat.le_refl _) _)).mono ?_
  rintro e w1 ⟨r, rfl, hrd, hrr, hb1⟩
  have hbl : Below w.heap.size w w1 := ((Below.refl _ w).alloc (Nat.le_refl _) _).trans (hb1.mono (by simp))
  have hblk : Blk w1 w.heap.size 55 #[.int .i64 (-1), .int .i64 (-1)] := (hb1.block _ (by simp)).trans (Blk.new w _ _)
  have hrr' : w.heap.size < r := by simp at hrr; omega
  have h0 : oi.DecRel w A w.heap.size r f n T 0 (.slice none 0 0) w1 := ⟨hblk, by rw [Nat.mul_zero, List.drop_zero]; exact ⟨A, c, hrd, Near.refl A⟩, World.ownsRow_nil _ _ _ _, hbl⟩
  have H0 := Lib.hid h0; clear h0 hrd hblk hbl hb1 hrr
  go_wp2
  go_loopw [4] (fun v wr => ∃ (k : Nat) (u : Value), u = v ∧ k ≤ n ∧ oi.DecRel w A w.heap.size r f n T k u wr) (fun v _ => n + 1 - oi.lenOf v)
  case atStart => exact ⟨0, _, rfl, by omega, H0.out⟩
  case round =>
    obtain ⟨k, v, rfl, hk, hp, hrd, hown, hb⟩ := hrel
    obtain ⟨A1, c1, hrd, hnear⟩ := hrd
    have HNEAR := Lib.hid hnear; clear hnear
    have HRD := Lib.hid hrd; clear hrd
    have HO := Lib.hid hown
    have HOLD := Lib.hid hown; clear hown
    have HB := Lib.hid hb; clear hb H0
    by_cases hlt : k < n
    · have hbad := HOK.out k hlt
      have hpre := oi.pre_ge f k fun j hj => HOK.out j (by omega)
      have hfb0 := HF.out k 0 hlt (by omega)
      have hfb1 := HF.out k 1 hlt (by omega)
      have g0 : ¬ f k 0 ≤ oi.pre f k 0 := fun h => hbad (.inl h)
      have g1 : ¬ f k 1 ≤ oi.pre f k 1 := fun h => hbad (.inr h)
      obtain ⟨a0, ha0⟩ := Int.eq_ofNat_of_zero_le (show 0 ≤ f k 0 by omega)
      obtain ⟨a1, ha1⟩ := Int.eq_ofNat_of_zero_le (show 0 ≤ f k 1 by omega)
      have hd := oi.enc_drop f n k T hlt
      rw [ha0, ha1, Int.toNat_natCast, Int.toNat_natCast] at hd
      have hm0 : 0 < m := by rw [← HM.out, List.length_append, oi.enc_len]; omega
      have hpos : 16 ≤ ((oi.enc f n ++ T).drop (16 * k)).length := by rw [hd]; simp only [List.length_append, wire.be_len]; omega
      have hv0 : ¬ rd.fbad ((oi.enc f n ++ T).drop (16 * k)) ((8 : Nat) : Int) ∧ wire.val (((oi.enc f n ++ T).drop (16 * k)).take 8) = a0 ∧ ((oi.enc f n ++ T).drop (16 * k)).drop 8 = wire.be a1 8 ++ (oi.enc f n ++ T).drop (16 * (k + 1)) := by rw [hd]; exact oi.fixed8 a0 _ (by omega)
      have hv1 : ¬ rd.fbad (wire.be a1 8 ++ (oi.enc f n ++ T).drop (16 * (k + 1))) ((8 : Nat) : Int) ∧ wire.val ((wire.be a1 8 ++ (oi.enc f n ++ T).drop (16 * (k + 1))).take 8) = a1 ∧ (wire.be a1 8 ++ (oi.enc f n ++ T).drop (16 * (k + 1))).drop 8 = (oi.enc f n ++ T).drop (16 * (k + 1)) := oi.fixed8 a1 _ (by omega)
      obtain ⟨D1, hD1⟩ : ∃ D1, D1 = (oi.enc f n ++ T).drop (16 * (k + 1)) := ⟨_, rfl⟩
      rw [← hD1] at hv0 hv1
      have HD1 := Lib.hid hD1; clear hD1
      have HV := Lib.hid (And.intro hv0 hv1); clear hv0 hv1 hd
      have hrows : rows2 f (k + 1) = rows2 f k ++ [.int .i64 (a0 : Int), .int .i64 (a1 : Int)] := by rw [rows2_succ, ha0, ha1]
      have HROWS := Lib.hid hrows; clear hrows
      have hpre1 : Value.int .i64 (a0 : Int) = .int .i64 (oi.pre f (k + 1) 0) := congrArg (Value.int .i64) ha0.symm
      have hpre2 : Value.int .i64 (a1 : Int) = .int .i64 (oi.pre f (k + 1) 1) := congrArg (Value.int .i64) ha1.symm
      have HP1 := Lib.hid hpre1; clear hpre1
      have HP2 := Lib.hid hpre2; clear hpre2
      rw [ha0] at g0
      rw [ha1] at g1
      clear ha0 ha1 hfb0 hfb1 hbad
      generalize oi.pre f k 0 = r0 at *
      generalize oi.pre f k 1 = r1 at *
      generalize (oi.enc f n ++ T).drop (16 * k) = D at *
      generalize rows2 f k = rows at *
      have hpos' : (0 : Int) < (D.length : Int) := by omega
      have HPB := Lib.hid hp; clear hp
      go_wp2_with fail
      refine (wire.left_any r A1 c1 _ 0 wr HRD.out).mono ?_
      rintro en w' ⟨rfl, rfl⟩
      go_wp2_with fail
      obtain ⟨q, hq⟩ : ∃ q, q = wr.heap.size := ⟨_, rfl⟩
      have hst : oi.St w A w.heap.size r q r0 r1 0 0 D v k rows (wr.alloc (.cells #[.int .i64 0, .int .i64 0] 55)) :=
        { pre := (Below.heap_alloc _ _ _ HPB.out.lt).trans HPB.out, ent := by rw [hq]; exact Blk.new _ _ _, rd := ⟨A1, c1, ⟨(Below.heap_alloc _ _ _ HRD.out.blk.lt).trans HRD.out.blk, HRD.out.lie.alloc _, HRD.out.len, HRD.out.cap, HRD.out.byte⟩, HNEAR.out⟩, low := HLOW.out hm0, own := HO.out.alloc _, bel := HB.out.alloc HB.out.size _,
          qr := by have := HRD.out.blk.lt; omega, qp := by have := HPB.out.lt; omega, pr := hrr', qu := fun h => by have := (HO.out.lt q h).2; omega, wp := Nat.le_refl _, wq := by have := HB.out.size; omega }
      rw [← hq] at *
      generalize wr.alloc (.cells #[.int .i64 0, .int .i64 0] 55) = wA at *
      have HST := Lib.hid hst
      obtain ⟨A2, c2, hrd2, hn2⟩ := hst.rd
      have HN2 := Lib.hid hn2
      clear hst HPB HRD HO HB hn2
      refine (wire.rfixed_near r A2 c2 D 8 wA hrd2 HV.out.1.1).mono ?_
      clear hrd2
      rintro en w2 ⟨rfl, ⟨A2', c2', hrd, hn⟩, hch⟩
      rw [HV.out.1.2.1]
      rw [HV.out.1.2.2] at hrd
      have hrd := (show RdNear w2 r A (wire.be a1 8 ++ D1) 0 from ⟨A2', c2', hrd, HN2.out.trans hn⟩)
      have hst := HST.out.fixed hch hrd
      have hc0 := hst.ent.cell 0 (v := .int .i64 0) rfl
      have hf0 := hst.ent.frozen 0
      have HST2 := Lib.hid hst; clear hst hrd hch HST
      go_wp2_with fail
      have hst := HST2.out.set0 (a0 : Int)
      generalize w2.setCell ⟨q, 0, none⟩ (.int .i64 (a0 : Int)) = w3 at *
      have HST3 := Lib.hid hst; clear HST2
      obtain ⟨A3, c3, hrd3, hn3⟩ := hst.rd
      have HN3 := Lib.hid hn3
      clear hst hc0 hf0 hn3
      refine (wire.rfixed_near r A3 c3 (wire.be a1 8 ++ D1) 8 w3 hrd3 HV.out.2.1).mono ?_
      clear hrd3
      rintro en w4 ⟨rfl, ⟨A4', c4', hrd, hn⟩, hch⟩
      rw [HV.out.2.2.1]
      rw [HV.out.2.2.2] at hrd
      have hrd := (show RdNear w4 r A D1 0 from ⟨A4', c4', hrd, HN3.out.trans hn⟩)
      have hst := HST3.out.fixed hch hrd
      have hc1 := hst.ent.cell 1 (v := .int .i64 0) rfl
      have hf1 := hst.ent.frozen 1
      have HST4 := Lib.hid hst; clear hst hrd hch HST3
      go_wp2_with fail
      have hst := HST4.out.set1 (a1 : Int)
      generalize w4.setCell ⟨q, 1, none⟩ (.int .i64 (a1 : Int)) = w5 at *
      have HST5 := Lib.hid hst; clear HST4 hc1 hf1
      obtain ⟨A5, c5, hrd5, -⟩ := hst.rd
      refine (wire.err_any r A5 c5 D1 0 w5 hrd5).mono ?_
      rintro en w' ⟨rfl, rfl⟩
      have q0 := hst.ent.cell 0 (v := .int .i64 (a0 : Int)) rfl
      have q1 := hst.ent.cell 1 (v := .int .i64 (a1 : Int)) rfl
      have p0 := hst.pre.cell 0 (v := .int .i64 r0) rfl
      have p1 := hst.pre.cell 1 (v := .int .i64 r1) rfl
      have hr5 : r < w5.heap.size := hrd5.blk.lt
      clear hst hrd5
      go_wp2_with (at_builtin; refine wpList_app2 _ rfl (.tmp 37) (.tmp 39) 30 rfl (r + 1) 55 i0 _ 2 16 Try.underlying30 hi hz0 hz1 hz2 rfl (by decide) v k rows rfl (HST5.out.own.alloc _) (some ⟨w5.heap.size, 0, none⟩) 1 1 (fun j => (#[Value.int .i64 (a0 : Int), .int .i64 (a1 : Int)] : Array Value).getD j undef) rfl (At.new w5 #[.int .i64 (a0 : Int), .int .i64 (a1 : Int)] 55 (n := 1 * 2) rfl) (ent_one _ _) (by unfold maxLen; omega) (by omega) (by rw [World.size_alloc]; omega) ?_; intro v' w6 hown6 hg6 hl6; rw [ent_cells] at hown6; have hst := HST5.out.grown hg6 hl6 hown6; have y0 := hst.ent.cell 0 (v := .int .i64 (a0 : Int)) rfl; have y1 := hst.ent.cell 1 (v := .int .i64 (a1 : Int)) rfl; have z0 := hst.pre.cell 0 (v := .int .i64 r0) rfl; have z1 := hst.pre.cell 1 (v := .int .i64 r1) rfl; have zf0 := hst.pre.frozen 0; have zf1 := hst.pre.frozen 1; have HST6 := Lib.hid hst; clear hst hown6 hg6 hl6)
      have hst := HST6.out.setp
      obtain ⟨A7, c7, hv7, -⟩ := own_at hst.own
      have HST7 := Lib.hid hst; clear hst HST5 HST6
      go_roundw
      case rel =>
        refine ⟨k + 1, v', rfl, by omega, ?_, by rw [← HD1.out]; exact HST7.out.rd, ?_, HST7.out.bel⟩
        · rw [← HP1.out, ← HP2.out]; exact HST7.out.pre
        · rw [HROWS.out]; exact HST7.out.own
      case measure =>
        rw [hv7]
        obtain ⟨A8, c8, hv8, -⟩ := own_at HOLD.out
        simp [oi.lenOf, hv8]
        omega
    · obtain rfl : k = n := by omega
      have hd : (oi.enc f k ++ T).drop (16 * k) = T := List.drop_left' (oi.enc_len f k)
      rw [hd] at HRD
      clear hd
      have hfx := oi.short T hT
      have HFX := Lib.hid hfx; clear hfx
      by_cases hT0 : T = []
      · have hT1 : (T.length : Int) = 0 := by rw [hT0]; rfl
        go_wp2_with fail
        refine (wire.left_any r A1 c1 _ 0 wr HRD.out).mono ?_
        rintro en w' ⟨rfl, rfl⟩
        go_wp2_with fail
        go_ret2
        exact ⟨.inl ⟨hT0, v, rfl, ⟨HO.out.1, HO.out.2.imp id fun ⟨g, cap, cur, h1, h2, h3⟩ => ⟨g, cap, cur, h1, (by omega), h3⟩⟩⟩, HB.out⟩
      · have hT1 : (0 : Int) < (T.length : Int) := by have := List.length_pos_iff.2 hT0; omega
        go_wp2_with fail
        refine (wire.left_any r A1 c1 _ 0 wr HRD.out).mono ?_
        rintro en w' ⟨rfl, rfl⟩
        go_wp2_with fail
        obtain ⟨q, hq⟩ : ∃ q, q = wr.heap.size := ⟨_, rfl⟩
        have hrd0 : Rd (wr.alloc (.cells #[.int .i64 0, .int .i64 0] 55)) r A1 c1 T 0 := ⟨(Below.heap_alloc _ _ _ HRD.out.blk.lt).trans HRD.out.blk, HRD.out.lie.alloc _, HRD.out.len, HRD.out.cap, HRD.out.byte⟩
        have hx : Blk (wr.alloc (.cells #[.int .i64 0, .int .i64 0] 55)) q 55 #[.int .i64 0, .int .i64 0] := by rw [hq]; exact Blk.new _ _ _
        have hb0 : Below w.heap.size w (wr.alloc (.cells #[.int .i64 0, .int .i64 0] 55)) := HB.out.alloc HB.out.size _
        have hqr : q ≠ r := by have := HRD.out.blk.lt; omega
        have hwq : w.heap.size ≤ q := by have := HB.out.size; omega
        rw [← hq] at *
        generalize wr.alloc (.cells #[.int .i64 0, .int .i64 0] 55) = wA at *
        have HX := Lib.hid hx; clear hx
        have HB0 := Lib.hid hb0; clear hb0
        have hc := wire.rfixed_any r A1 c1 T 0 8 wA hrd0
        rw [HFX.out] at hc
        refine hc.mono ?_
        clear hc hrd0 HRD
        rintro en w2 ⟨rfl, hrd, hch⟩
        have hx := hch.blk HX.out hqr
        have hc0 := hx.cell 0 (v := .int .i64 0) rfl
        have hf0 := hx.frozen 0
        have HB2 := Lib.hid (HB0.out.trans (hch.below HB0.out.size fun j hj => by have e' : j = r := hj; omega))
        clear HB0 hch
        have HX2 := Lib.hid hx; clear hx HX
        have HR2 := Lib.hid hrd; clear hrd
        go_wp2_with fail
        obtain ⟨A3, c3, hrd3⟩ := HR2.out
        have hrd3 : Rd (w2.setCell ⟨q, 0, none⟩ (.int .i64 0)) r A3 c3 [] 2 := by
          have hc := Chg.setCell w2 q 0 (.int .i64 0)
          exact ⟨hc.blk hrd3.blk (fun e => hqr e.symm), (fun h => absurd h (by simp)), hrd3.len, hrd3.cap, hrd3.byte⟩
        have hx := HX2.out.set 0 (.int .i64 0)
        have hb := HB2.out.setCell (p := ⟨q, 0, none⟩) hwq (.int .i64 0)
        generalize w2.setCell ⟨q, 0, none⟩ (.int .i64 0) = w3 at *
        have HX3 := Lib.hid hx; clear hx HX2 HR2 hc0 hf0
        have HB3 := Lib.hid hb; clear hb HB2
        have hc := wire.rfixed_any r A3 c3 [] 2 8 w3 hrd3
        rw [rd.fixed_err [] 2 8 (by decide)] at hc
        refine hc.mono ?_
        clear hc hrd3
        rintro en w4 ⟨rfl, hrd, hch⟩
        have hx := hch.blk HX3.out hqr
        have hc1 := hx.cell 1 (v := .int .i64 0) rfl
        have hf1 := hx.frozen 1
        have HB4 := Lib.hid (HB3.out.trans (hch.below HB3.out.size fun j hj => by have e' : j = r := hj; omega))
        clear HB3 hch
        have HX4 := Lib.hid hx; clear hx HX3
        have HR4 := Lib.hid hrd; clear hrd
        go_wp2_with fail
        obtain ⟨A5, c5, hrd5⟩ := HR4.out
        have hrd5 : Rd (w4.setCell ⟨q, 1, none⟩ (.int .i64 0)) r A5 c5 [] 2 := by
          have hc := Chg.setCell w4 q 1 (.int .i64 0)
          exact ⟨hc.blk hrd5.blk (fun e => hqr e.symm), (fun h => absurd h (by simp)), hrd5.len, hrd5.cap, hrd5.byte⟩
        have hx := HX4.out.set 1 (.int .i64 0)
        have hb := HB4.out.setCell (p := ⟨q, 1, none⟩) hwq (.int .i64 0)
        generalize w4.setCell ⟨q, 1, none⟩ (.int .i64 0) = w5 at *
        refine (wire.err_any r A5 c5 [] 2 w5 hrd5).mono ?_
        rintro en w' ⟨rfl, rfl⟩
        clear hrd5 hc1 hf1 HX4 HR4 HB4
        have HB5 := Lib.hid hb; clear hb
        go_wp2_with fail
        go_ret2
        exact ⟨.inr ⟨hT0, rfl⟩, HB5.out⟩

/-- A slice of one byte, new. -/
theorem oi.byte1 (w : World) (x : Nat) (t : TypeId) (fr : Nat × Nat) : At (w.alloc (.cells #[.int .u8 (x : Int)] t fr)) (some ⟨w.heap.size, 0, none⟩) [x].length (byteAt [x]) :=
  (At.new w #[.int .u8 (x : Int)] t (n := 1) rfl).congr fun j hj => by
    obtain rfl : j = 0 := by simp at hj; omega
    rfl

def oi.two (i j : Nat) : Int := (#[(3 : Int), 50, 7, 90] : Array Int).getD (i * 2 + j) 0
theorem oi.two_at (w : World) (t : TypeId) (fr : Nat × Nat) : At2 (w.alloc (.cells #[.int .i64 3, .int .i64 50, .int .i64 7, .int .i64 90] t fr)) (some ⟨w.heap.size, 0, none⟩) 2 oi.two :=
  ⟨_, At.new w #[.int .i64 3, .int .i64 50, .int .i64 7, .int .i64 90] t (n := 2 * 2) rfl, fun i j hi hj => by
    have h : (i = 0 ∨ i = 1) ∧ (j = 0 ∨ j = 1) := by omega
    obtain ⟨rfl | rfl, rfl | rfl⟩ := h <;> rfl⟩
theorem oi.two_bd : ∀ i j, i < 2 → j < 2 → -9223372036854775808 ≤ oi.two i j ∧ oi.two i j ≤ 9223372036854775807 := fun i j hi hj => by
  have h : (i = 0 ∨ i = 1) ∧ (j = 0 ∨ j = 1) := by omega
  obtain ⟨rfl | rfl, rfl | rfl⟩ := h <;> decide
theorem oi.two_ok : ∀ k, k < 2 → ¬ oi.bad oi.two k := fun k hk h => by
  have h' : k = 0 ∨ k = 1 := by omega
  unfold oi.bad at h
  rcases h' with rfl | rfl
  · revert h; decide
  · revert h; decide

set_option maxRecDepth 20000 in
set_option maxHeartbeats 1000000 in
theorem oi.awake_any (w : World) : Calls Try.prog 9 #[] w fun e w' => e = .returned (.bool true) ∧ Below w.heap.size w w' := by
  have l1 : oi.look oi.two 6 2 = 50 := by decide
  have l2 : oi.look oi.two 2 2 = 0 := by decide
  have LL := Lib.hid (And.intro l1 l2); clear l1 l2
  go_enter Try.func9, Try.ntmps9
  go_wp2_with fail
  have h0 := oi.two_at w 55 (0, 0)
  have hb : Below w.heap.size w (w.alloc (.cells #[.int .i64 3, .int .i64 50, .int .i64 7, .int .i64 90] 55)) := (Below.refl _ w).alloc (Nat.le_refl _) _
  have hz : w.heap.size < (w.alloc (.cells #[.int .i64 3, .int .i64 50, .int .i64 7, .int .i64 90] 55)).heap.size := by simp
  refine (oi.encode_any _ 2 _ oi.two _ (by omega) h0 oi.two_bd).mono ?_
  rintro e w1 ⟨h1, hb1⟩
  rcases h1 with ⟨-, v, rfl, hown⟩ | ⟨⟨k, hk, hbad, -⟩, -⟩
  case inr => exact absurd hbad (oi.two_ok k hk)
  have H1 := Lib.hid (h0.below hb1 (Nat.le_refl _))
  have HB1 := Lib.hid (hb.trans (hb1.mono (by omega)))
  rw [oi.enc_len] at hown
  obtain ⟨A1, c1, rfl, -, -⟩ := own_at hown
  clear h0 hb hz hb1 hown
  go_wp2_with fail
  have hd := oi.decode_any (some ⟨w1.heap.size, 0, none⟩) 1 1 0 oi.two [1] (w1.alloc (.cells #[.int .u8 1] 5)) (by omega) (by simp) (by simp) (fun i j hi => absurd hi (by omega)) (fun j hj => absurd hj (by omega)) rfl (oi.byte1 w1 1 5 (0, 0)) (by unfold maxLen; omega)
  refine hd.mono ?_
  clear hd
  rintro e w2 ⟨h2, hb2⟩
  rcases h2 with ⟨h2, -⟩ | ⟨-, rfl⟩
  · exact absurd h2 (by simp)
  have hb12 : Below w1.heap.size w1 w2 := ((Below.refl _ w1).alloc (Nat.le_refl _) _).trans (hb2.mono (by simp))
  have H2 := Lib.hid (H1.out.below hb12 (Nat.le_refl _))
  have HB2 := Lib.hid (HB1.out.trans (hb12.mono HB1.out.size)); clear hb12 hb2 H1 HB1
  go_wp2_with fail
  refine (oi.lookup_any _ 2 _ oi.two 6 w2 (by omega) H2.out).mono ?_
  rintro e w' ⟨rfl, rfl⟩
  rw [LL.out.1]
  go_wp2_with fail
  refine (oi.lookup_any _ 2 _ oi.two 2 w' (by omega) H2.out).mono ?_
  rintro e w2 ⟨rfl, rfl⟩
  rw [LL.out.2]
  go_wp2_with fail
  go_ret
  exact ⟨rfl, HB2.out⟩
end Go.Proofs.Ytchdolcnhopmjaa

/- The walk of the law BatchTorn: it answers true, whatever the input. -/
import Derived.Test.YtndingohckcmdaaWkG
namespace Go.Proofs.Ytndingohckcmdaa
open Go.RowKit

/-- Batches that may be, with rising offsets. -/
def tn.asc : Int → List Bat → Prop
  | _, [] => True
  | a, b :: bs => b.check = 0 ∧ a < b.base ∧ tn.asc b.last bs
def tn.last : Int → List Bat → Int
  | a, [] => a
  | _, b :: bs => tn.last b.last bs
def tn.cat (bs : List Bat) : List Nat := (bs.map Bat.bytes).flatten
def tn.places : Nat → List Bat → List (Nat × Bat)
  | _, [] => []
  | n, b :: bs => (n, b) :: tn.places (n + b.bytes.length) bs
theorem tn.cat_cons (b : Bat) (bs : List Bat) : tn.cat (b :: bs) = b.bytes ++ tn.cat bs := by unfold tn.cat; simp
theorem tn.cat_snoc (bs : List Bat) (b : Bat) : tn.cat (bs ++ [b]) = tn.cat bs ++ b.bytes := by unfold tn.cat; simp
theorem tn.asc_snoc : ∀ (bs : List Bat) (a : Int) (b : Bat), tn.asc a (bs ++ [b]) ↔ tn.asc a bs ∧ b.check = 0 ∧ tn.last a bs < b.base
  | [], a, b => by simp [tn.asc, tn.last]
  | x :: bs, a, b => by
    show (x.check = 0 ∧ a < x.base ∧ tn.asc x.last (bs ++ [b])) ↔ (x.check = 0 ∧ a < x.base ∧ tn.asc x.last bs) ∧ b.check = 0 ∧ tn.last x.last bs < b.base
    rw [tn.asc_snoc bs x.last b]
    constructor
    · rintro ⟨h1, h2, h3, h4, h5⟩; exact ⟨⟨h1, h2, h3⟩, h4, h5⟩
    · rintro ⟨⟨h1, h2, h3⟩, h4, h5⟩; exact ⟨h1, h2, h3, h4, h5⟩
theorem tn.last_snoc : ∀ (bs : List Bat) (a : Int) (b : Bat), tn.last a (bs ++ [b]) = b.last
  | [], _, _ => rfl
  | x :: bs, _, b => tn.last_snoc bs x.last b
theorem tn.places_snd : ∀ (bs : List Bat) (n : Nat), (tn.places n bs).map Prod.snd = bs
  | [], _ => rfl
  | b :: bs, n => by show b :: (tn.places _ bs).map Prod.snd = _; rw [tn.places_snd bs]
theorem tn.places_len (bs : List Bat) (n : Nat) : (tn.places n bs).length = bs.length := by
  have := congrArg List.length (tn.places_snd bs n)
  rwa [List.length_map] at this
theorem tn.places_last : ∀ (bs : List Bat) (n : Nat) (b : Bat), (tn.places n (bs ++ [b])).getLast? = some (n + (tn.cat bs).length, b)
  | [], n, b => by simp [tn.places, tn.cat]
  | x :: bs, n, b => by
    have ih := tn.places_last bs (n + x.bytes.length) b
    show ((n, x) :: tn.places (n + x.bytes.length) (bs ++ [b])).getLast? = _
    have hne : tn.places (n + x.bytes.length) (bs ++ [b]) ≠ [] := fun h => by
      have := tn.places_len (bs ++ [b]) (n + x.bytes.length)
      rw [h] at this
      simp at this
    rw [List.getLast?_cons_of_ne_nil hne, ih, tn.cat_cons, List.length_append, Nat.add_assoc]
theorem tn.walk : ∀ (bs : List Bat) (a : Int) (g : Nat) (pre tail : List Nat), tn.asc a bs → (∀ x u, dec.first tail = some (x, u) → x.base ≤ tn.last a bs) → (∀ x ∈ pre ++ (tn.cat bs ++ tail), x < 256) → (pre ++ (tn.cat bs ++ tail)).length ≤ pre.length + g →
    dec.walkF g (pre ++ (tn.cat bs ++ tail)) pre.length a = tn.places pre.length bs
  | [], a, g, pre, tail, _, ht, _, _ => by
    have hd : (pre ++ (tn.cat [] ++ tail)).drop pre.length = tail := by rw [List.drop_left]; rfl
    cases h : dec.first tail with
    | none => exact dec.walk_none (by rw [hd]; exact h)
    | some y =>
      obtain ⟨x, u⟩ := y
      exact dec.walk_low (by rw [hd]; exact h) (ht x u h)
  | b :: bs, a, g, pre, tail, hasc, ht, hb, hg => by
    obtain ⟨hc, hlow, hasc2⟩ := hasc
    have hd : dec.first ((pre ++ (tn.cat (b :: bs) ++ tail)).drop pre.length) = some (b, b.bytes.length) := by
      rw [List.drop_left, tn.cat_cons, List.append_assoc]
      exact dec.first_put hc _
    obtain ⟨g', -, hg2, hw⟩ := dec.walk_step hb hd hlow hg
    have e : pre ++ (tn.cat (b :: bs) ++ tail) = (pre ++ b.bytes) ++ (tn.cat bs ++ tail) := by rw [tn.cat_cons]; simp only [List.append_assoc]
    have ih := tn.walk bs b.last g' (pre ++ b.bytes) tail hasc2 ht (by rw [← e]; exact hb) (by rw [← e, show (pre ++ b.bytes).length = pre.length + b.bytes.length from List.length_append]; exact hg2)
    rw [← e, show (pre ++ b.bytes).length = pre.length + b.bytes.length from List.length_append] at ih
    rw [hw, ih]
    rfl
theorem tn.walk_all {bs : List Bat} {tail : List Nat} (h : tn.asc (-1) bs) (ht : ∀ x u, dec.first tail = some (x, u) → x.base ≤ tn.last (-1) bs) (hb : ∀ x ∈ tn.cat bs ++ tail, x < 256) : dec.walk (tn.cat bs ++ tail) = tn.places 0 bs := by
  have := tn.walk bs (-1) (tn.cat bs ++ tail).length [] tail h ht hb (by simp)
  exact this
theorem tn.asc_mem : ∀ (bs : List Bat) (a : Int), tn.asc a bs → ∀ b ∈ bs, b.check = 0
  | [], _, _, b, hb => by cases hb
  | x :: bs, _, h, b, hb => by
    rcases List.mem_cons.1 hb with rfl | hb
    · exact h.1
    · exact tn.asc_mem bs x.last h.2.2 b hb
theorem tn.good_all {bs : List Bat} {tail : List Nat} (h : tn.asc (-1) bs) (ht : ∀ x u, dec.first tail = some (x, u) → x.base ≤ tn.last (-1) bs) (hb : ∀ x ∈ tn.cat bs ++ tail, x < 256) : dec.good (tn.cat bs ++ tail) = ((tn.cat bs).length : Int) := by
  unfold dec.good
  rw [tn.walk_all h ht hb]
  rcases List.eq_nil_or_concat bs with rfl | ⟨xs, b, rfl⟩
  · rfl
  · have hc : b.check = 0 := tn.asc_mem _ _ h b (by simp)
    have hs := Bat.bytes_len b (Bat.flags_of hc)
    rw [List.concat_eq_append, tn.places_last, tn.cat_snoc, List.length_append]
    dsimp only
    omega
/-- A batch cut short is none. -/
theorem tn.cut {b : Bat} (hc : b.check = 0) (hb : ∀ x ∈ b.bytes, x < 256) {q : Nat} (hq : q < b.bytes.length) : dec.first (b.bytes.take q) = none := by
  cases h : dec.first (b.bytes.take q) with
  | none => rfl
  | some y =>
    obtain ⟨b', u⟩ := y
    obtain ⟨h1, h2, h3⟩ := dec.first_back (fun x hx => hb x (List.mem_of_mem_take hx)) h
    rw [List.length_take] at h2
    have e : b.bytes = b'.bytes ++ b.bytes.drop u := by
      rw [← h3, List.take_take, Nat.min_eq_left (by omega), List.take_append_drop]
    have p1 := dec.first_put h1 (b.bytes.drop u)
    rw [← e] at p1
    have p2 := dec.first_put hc []
    rw [List.append_nil] at p2
    rw [p2] at p1
    have hl : b'.bytes.length = u := by rw [← h3, List.length_take, List.length_take]; omega
    have e2 := Option.some.inj p1
    have e3 := congrArg Prod.snd e2
    dsimp only at e3
    omega
/-- How many bytes a batch has, by its weight. -/
theorem tn.small {b : Bat} (hc : b.check = 0) (hw : b.weight ≤ 5000) : b.bytes.length ≤ 10100 := by
  obtain ⟨-, h100, -, -⟩ := Bat.check_ok hc
  have hs := Bat.bytes_len b (Bat.flags_of hc)
  have hsum : ∀ (rs : List Rec), Bat.sum (Bat.first b.recs) b.base rs ≤ 50 * rs.length + (rs.map Rec.weight).sum := by
    intro rs
    induction rs with
    | nil => simp [Bat.sum]
    | cons r rs ih =>
      have z1 := num.widI_le (r.time - Bat.first b.recs)
      have z2 := num.widI_le (r.off - b.base)
      have z3 := num.widI_le (bat.len r.hasKey r.key.length)
      have z4 := num.widI_le (bat.len r.hasVal r.val.length)
      have z5 := num.widI_le (r.body (Bat.first b.recs) b.base)
      have hbody : r.body (Bat.first b.recs) b.base ≤ 40 + r.key.length + r.val.length := by unfold Rec.body; omega
      unfold Bat.sum at ih ⊢
      rw [List.map_cons, List.sum_cons, List.map_cons, List.sum_cons, List.length_cons]
      unfold Rec.weight at ih ⊢
      omega
  have h1 := hsum b.recs
  unfold Bat.size at hs
  unfold Bat.weight at hw
  omega
theorem tn.cat_len : ∀ (bs : List Bat), (∀ b ∈ bs, b.bytes.length ≤ 10100) → (tn.cat bs).length ≤ 10100 * bs.length
  | [], _ => by simp [tn.cat]
  | b :: bs, h => by
    have h1 := h b (List.mem_cons_self ..)
    have h2 := tn.cat_len bs fun x hx => h x (List.mem_cons_of_mem _ hx)
    rw [tn.cat_cons, List.length_append, List.length_cons]
    omega
theorem tn.cat_byte {bs : List Bat} (h : ∀ b ∈ bs, ∀ x ∈ b.bytes, x < 256) : ∀ x ∈ tn.cat bs, x < 256 := by
  intro x hx
  unfold tn.cat at hx
  rw [List.mem_flatten] at hx
  obtain ⟨l, hl, hx⟩ := hx
  obtain ⟨b, hb, rfl⟩ := List.mem_map.1 hl
  exact h b hb x hx

set_option maxRecDepth 20000 in
set_option maxHeartbeats 2000000 in
/-- The same batches are told to be the same. -/
theorem ref.samebatches_any (A B : Option Addr) (c d n : Nat) (bs : List Bat) (w : World) (hn : bs.length = n) (hn2 : n ≤ 1000000) (hc : n ≤ c) (hd : n ≤ d) (ha : BatsAt w A bs) (hb : BatsAt w B bs) :
    Calls Try.prog 32 #[.slice A n c, .slice B n d] w fun e w' => e = .returned (.bool true) ∧ Below w.heap.size w w' := by
  have HA := Lib.hid ha; clear ha
  have HB := Lib.hid hb; clear hb
  have HN := Lib.hid hn; clear hn
  go_enter Try.func32, Try.ntmps32
  have hnn : ((n : Int) != (n : Int)) = false := by simp
  go_wp2_with fail
  go_loopg [5] n (fun g s5 wx => ∃ k : Nat, k + g = n ∧ s5 = .int .i64 (k : Int) ∧ Below w.heap.size w wx)
  case atStart => exact ⟨0, by omega, rfl, Below.refl _ _⟩
  case round =>
    obtain ⟨k, hkg, rfl, hbr⟩ := hrel
    have HBR := Lib.hid hbr; clear hbr
    cases gk with
    | zero =>
      obtain rfl : k = n := by omega
      go_wp2_with fail
      (try rw [Exit.noGoto_ret])
      go_ret
      exact ⟨rfl, HBR.out⟩
    | succ g =>
      have hkn : k < n := by omega
      have hkl : k < bs.length := by rw [HN.out]; exact hkn
      obtain ⟨b, hy⟩ : ∃ y, bs[k]? = some y := ⟨_, List.getElem?_eq_getElem hkl⟩
      obtain ⟨b2, o2, v2, rfl, hb2l, d0, d1, d2, d3, d4, d5, hrv2, -⟩ := (HA.out.below HBR.out (Nat.le_refl _)).at' hy
      obtain ⟨b3, o3, v3, rfl, hb3l, e0, e1, e2, e3, e4, e5, hrv3, -⟩ := (HB.out.below HBR.out (Nat.le_refl _)).at' hy
      obtain ⟨A2, c2, V2, rfl, -⟩ := id hrv2
      obtain ⟨A3, c3, V3, rfl, -⟩ := id hrv3
      have hsm := fun wx (h : Below wr.heap.size wr wx) => ref.same_any b b A2 c2 A3 c3 wx (hrv2.below h (Nat.le_refl _)) (hrv3.below h (Nat.le_refl _))
      rw [Bat.same_self] at hsm
      unfold Bat.hval at hsm
      generalize b.recs.length = nv at *
      have HSM := Lib.hid hsm; clear hsm hrv2 hrv3 hkl hy
      have r0 : ∀ x : Later wr (fun _ => False), x.1.cell? ⟨b2, o2 + k * 6, none⟩ = some (.int .i64 b.base) := fun x => ((x.2.below (Nat.le_refl _) fun _ q => q.elim).cell (p := ⟨b2, o2 + k * 6, none⟩) hb2l).trans d0
      have r1 : ∀ x : Later wr (fun _ => False), x.1.cell? ⟨b2, o2 + k * 6 + 1, none⟩ = some (.int .i64 b.last) := fun x => ((x.2.below (Nat.le_refl _) fun _ q => q.elim).cell (p := ⟨b2, o2 + k * 6 + 1, none⟩) hb2l).trans d1
      have r2 : ∀ x : Later wr (fun _ => False), x.1.cell? ⟨b2, o2 + k * 6 + 2, none⟩ = some (.int .i64 b.prod) := fun x => ((x.2.below (Nat.le_refl _) fun _ q => q.elim).cell (p := ⟨b2, o2 + k * 6 + 2, none⟩) hb2l).trans d2
      have r3 : ∀ x : Later wr (fun _ => False), x.1.cell? ⟨b2, o2 + k * 6 + 3, none⟩ = some (.int .i64 b.epoch) := fun x => ((x.2.below (Nat.le_refl _) fun _ q => q.elim).cell (p := ⟨b2, o2 + k * 6 + 3, none⟩) hb2l).trans d3
      have r4 : ∀ x : Later wr (fun _ => False), x.1.cell? ⟨b2, o2 + k * 6 + 4, none⟩ = some (.int .i64 b.seq) := fun x => ((x.2.below (Nat.le_refl _) fun _ q => q.elim).cell (p := ⟨b2, o2 + k * 6 + 4, none⟩) hb2l).trans d4
      have r5 : ∀ x : Later wr (fun _ => False), x.1.cell? ⟨b2, o2 + k * 6 + 5, none⟩ = some (.slice A2 nv c2) := fun x => ((x.2.below (Nat.le_refl _) fun _ q => q.elim).cell (p := ⟨b2, o2 + k * 6 + 5, none⟩) hb2l).trans d5
      have s0 : ∀ x : Later wr (fun _ => False), x.1.cell? ⟨b3, o3 + k * 6, none⟩ = some (.int .i64 b.base) := fun x => ((x.2.below (Nat.le_refl _) fun _ q => q.elim).cell (p := ⟨b3, o3 + k * 6, none⟩) hb3l).trans e0
      have s1 : ∀ x : Later wr (fun _ => False), x.1.cell? ⟨b3, o3 + k * 6 + 1, none⟩ = some (.int .i64 b.last) := fun x => ((x.2.below (Nat.le_refl _) fun _ q => q.elim).cell (p := ⟨b3, o3 + k * 6 + 1, none⟩) hb3l).trans e1
      have s2 : ∀ x : Later wr (fun _ => False), x.1.cell? ⟨b3, o3 + k * 6 + 2, none⟩ = some (.int .i64 b.prod) := fun x => ((x.2.below (Nat.le_refl _) fun _ q => q.elim).cell (p := ⟨b3, o3 + k * 6 + 2, none⟩) hb3l).trans e2
      have s3 : ∀ x : Later wr (fun _ => False), x.1.cell? ⟨b3, o3 + k * 6 + 3, none⟩ = some (.int .i64 b.epoch) := fun x => ((x.2.below (Nat.le_refl _) fun _ q => q.elim).cell (p := ⟨b3, o3 + k * 6 + 3, none⟩) hb3l).trans e3
      have s4 : ∀ x : Later wr (fun _ => False), x.1.cell? ⟨b3, o3 + k * 6 + 4, none⟩ = some (.int .i64 b.seq) := fun x => ((x.2.below (Nat.le_refl _) fun _ q => q.elim).cell (p := ⟨b3, o3 + k * 6 + 4, none⟩) hb3l).trans e4
      have s5 : ∀ x : Later wr (fun _ => False), x.1.cell? ⟨b3, o3 + k * 6 + 5, none⟩ = some (.slice A3 nv c3) := fun x => ((x.2.below (Nat.le_refl _) fun _ q => q.elim).cell (p := ⟨b3, o3 + k * 6 + 5, none⟩) hb3l).trans e5
      clear d0 d1 d2 d3 d4 d5 e0 e1 e2 e3 e4 e5
      go_wp2_with fail
      have hx : ∀ w0, (∃ x : Later wr (fun _ => False), w0 = x.1) → Below wr.heap.size wr w0 := by
        rintro _ ⟨x, rfl⟩
        exact x.2.below (Nat.le_refl _) fun _ q => q.elim
      have HX := Lib.hid hx; clear hx
      have hS0 : later wr (fun _ => False) wr.drew := later_of ((Chg.refl _ _).drew)
      refine wp_plan (S := fun w0 => ∃ x : Later wr (fun _ => False), w0 = x.1) (by kernel_rfl) hS0 ?_
      intro hS K hK
      have HS := Lib.hid hS; clear hS hS0
      refine plan_group [true, true, true, true, true, true, true, true] [0, 1, 2, 3, 4, 5, 6, 7] 2 (by dsimp only [sel]) (by rfl) rfl (by kernel_rfl) (by kernel_rfl) HS.out ?_
      (repeat go_big_quiet_step (fail)); refine wpQuiet_nil ?_
      clear r0 r1 r2 r3 r4 r5 s0 s1 s2 s3 s4 s5
      refine plan_one [false, false, false, false, false, false, false, false, true] 8 1 (by dsimp only [sel]) (by rfl) rfl (by kernel_rfl) ?_; intro K1 hK1; go_wp2_with fail
      refine (HSM.out _ (HX.out _ HS.out)).mono ?_
      rintro e w5 ⟨rfl, hb5⟩
      have hl5 : ∃ x : Later wr (fun _ => False), w5 = x.1 := by
        obtain ⟨x, hx⟩ := HS.out
        rw [hx] at hb5
        exact later_of (x.2.trans (chg_of hb5) fun _ _ q => q)
      have HL5 := Lib.hid hl5; clear hl5 hb5
      go_wp2_with fail
      refine ⟨HL5.out, ?_⟩
      refine plan_group [false, false, false, false, false, false, false, false, false, true] [9] 0 (by dsimp only [sel]) (by rfl) rfl (by kernel_rfl) (by kernel_rfl) HL5.out ?_
      (repeat go_big_quiet_step (fail)); refine wpQuiet_nil ?_
      refine wp_plan_end (by kernel_rfl) ?_
      refine hK _ _ ?_
      have HB5 := Lib.hid (show Below w.heap.size w w5 from HBR.out.trans ((HX.out _ HL5.out).mono HBR.out.size))
      clear HX HS HL5
      go_wp2_with fail
      go_roundg g
      case measure => omega
      case rel => exact ⟨k + 1, by omega, by go_num, HB5.out⟩

theorem BatsAt.take {w : World} {A : Option Addr} {bs : List Bat} (h : BatsAt w A bs) (k : Nat) : BatsAt w A (bs.take k) := by
  obtain ⟨V, h1, h2⟩ := h
  refine ⟨V, h1.le (by rw [List.length_take]; omega), fun i b hi => h2 i b ?_⟩
  rw [List.getElem?_take] at hi
  split at hi
  · exact hi
  · cases hi
/-- What First answers, in one form. -/
theorem tn.first_uni {L : List Nat} {w w' : World} {e : Ending} (h : rr.FirstPost L w e w') :
    ∃ (x : Bat) (U : Nat) (A' : Option Addr) (c' nv : Nat), e = .returned (.tuple #[.agg #[.int .i64 x.base, .int .i64 x.last, .int .i64 x.prod, .int .i64 x.epoch, .int .i64 x.seq, .slice A' nv c'], .int .i64 (U : Int)]) ∧
      ((U = 0 ∧ dec.first L = none) ∨ (0 < U ∧ dec.first L = some (x, U))) ∧ Below w.heap.size w w' := by
  obtain ⟨⟨h1, rfl⟩ | ⟨b, u, A', c', h1, h2, -, -, rfl⟩, hb⟩ := h
  · exact ⟨⟨0, 0, 0, 0, 0, []⟩, 0, none, 0, 0, rfl, .inl ⟨rfl, h1⟩, hb⟩
  · exact ⟨b, u, A', c', _, rfl, .inr ⟨by omega, h1⟩, hb⟩

theorem wpList_accg {w3 w : World} {ops : Array Oper} {rest : List Oper} {o : Oper} {a : Act} {Q : Exit → Act → World → Prop} (hwt : Region.wanted o (yielded ops a.tmps) = true) (s x : Operand)
    (ho : o.op = .call { callee := .builtin .append, args := #[s, x], argTypes := #[27, 27] })
    (v : Value) (L : List Nat) (hs : a.eval s = v) (hA : Acc w3 v L w) (X : Option Addr) (m c : Nat) (M : List Nat) (hx : a.eval x = .slice X m c) (hM : M.length = m) (hat : At w X m (byteAt M))
    (hlen : L.length + M.length ≤ 70368744177664)
    (h : ∀ v' w', Acc w3 v' (L ++ M) w' → wpList Try.prog ops Q rest (a.put o.dst v') w') : wpList Try.prog ops Q (o :: rest) a w := by
  have hg : wpList Try.prog ops Q ({ o with guard := none } :: rest) a w := wpList_acc (o := { o with guard := none }) rfl s x ho v L hs hA X m c M hx hM hat hlen h
  unfold wpList at hg ⊢
  rw [if_pos (by simp [Region.wanted])] at hg
  rw [if_pos hwt]
  exact hg

set_option maxRecDepth 20000 in
set_option maxHeartbeats 4000000 in
theorem bat.lawTorn (A : Option Addr) (n c : Nat) (bs : List Bat) (At' : Option Addr) (nt ct : Nat) (z : List Int) (cut : Int) (w : World) (hm : bs.length = n ∧ n ≤ c ∧ c ≤ maxLen) (hbs : BatsAt w A bs)
    (hmt : z.length = nt ∧ nt ≤ ct ∧ ct ≤ maxLen) (hat0 : At w At' nt (fun j => .int .u8 (z.getD j 0))) (hz : ∀ x ∈ z, (Lit.int .u8 x).wf = true) (hcut : -9223372036854775808 ≤ cut ∧ cut ≤ 9223372036854775807) :
    Calls Try.prog 7 #[.slice A n c, .slice At' nt ct, .int .i64 cut] w fun e w' => e = .returned (.bool true) ∧ Below w.heap.size w w' := by
  obtain ⟨hbn, hnc, hcm⟩ := hm
  obtain ⟨hzn, hntc, hctm⟩ := hmt
  obtain ⟨hat, hby0⟩ := ints_bytes hat0 hzn hz
  obtain ⟨T, hT⟩ : ∃ T, T = z.map Int.toNat := ⟨_, rfl⟩
  have htl : T.length = nt := by rw [hT, List.length_map]; exact hzn
  rw [← hT] at hat hby0
  have hby := bytes_each htl hby0
  clear hby0 hat0 hz hzn hT
  have HAW := Lib.hid (fun wx => law5.awake wx)
  have HBS := Lib.hid hbs
  have HAT := Lib.hid hat; clear hat
  have HTB := Lib.hid hby; clear hby
  have HTL := Lib.hid htl; clear htl
  have HCUT := Lib.hid hcut; clear hcut
  have hbw := alike.batches_any A bs c 5000 w hbs (by omega) (by omega)
  rw [hbn] at hbw
  have HBW := Lib.hid hbw; clear hbw hbs
  have HBN := Lib.hid hbn; clear hbn
  unfold maxLen at hcm hctm
  go_enter Try.func7, Try.ntmps7
  go_wp2_with fail
  refine HBW.out.mono ?_
  rintro e w1 ⟨⟨W0, rfl, hwt⟩, hb1⟩
  have HB1 := Lib.hid hb1; clear hb1 HBW
  have HWT := Lib.hid hwt; clear hwt
  by_cases hbad : 5000 < W0 ∨ 30 < n ∨ 200 < nt
  · have hb3 : 5000 < W0 ∨ (W0 ≤ 5000 ∧ 30 < n) ∨ (W0 ≤ 5000 ∧ n ≤ 30 ∧ 200 < nt) := by omega
    clear hbad
    rcases hb3 with h1 | ⟨h1, h2⟩ | ⟨h1, h2, h3⟩
    all_goals
      go_wp2_with fail
      refine (HAW.out w1).mono ?_
      rintro e w2 ⟨rfl, hb2⟩
      have HB2 := Lib.hid (show Below w.heap.size w w2 from HB1.out.trans (hb2.mono HB1.out.size)); clear hb2
      go_wp2_with fail
      go_ret
      exact ⟨rfl, HB2.out⟩
  have hw0 : W0 ≤ 5000 := by omega
  have hn30 : n ≤ 30 := by omega
  have ht200 : nt ≤ 200 := by omega
  clear hbad
  have hwt2 : ∀ b ∈ bs, b.weight ≤ 5000 := fun b hb => by
    have := HWT.out hw0 b hb
    omega
  have HWT2 := Lib.hid hwt2; clear hwt2 HWT
  have hclen : ∀ xs : List Bat, (∀ b ∈ xs, b ∈ bs) → xs.length ≤ 30 → tn.asc (-1) xs → (tn.cat xs).length ≤ 303000 := fun xs hx hl ha => by
    have := tn.cat_len xs fun b hb => tn.small (tn.asc_mem xs (-1) ha b hb) (HWT2.out b (hx b hb))
    omega
  have HCLEN := Lib.hid hclen; clear hclen
  have hbat : ∀ wx, Below w.heap.size w wx → BatsAt wx A bs := fun wx h => HBS.out.below h (Nat.le_refl _)
  have HBAT := Lib.hid hbat; clear hbat
  go_wp2_with fail
  go_loopg [7, 8, 9] n (fun g s7 s8 s9 wx => ∃ k : Nat, k + g = n ∧ s9 = .int .i64 (k : Int) ∧ s8 = .int .i64 (tn.last (-1) (bs.take k)) ∧ Acc w1 s7 (tn.cat (bs.take k)) wx ∧ tn.asc (-1) (bs.take k))
  case atStart => exact ⟨0, by omega, rfl, rfl, ⟨World.ownsRow_nil _ _ _ _, Below.refl _ _⟩, trivial⟩
  case round =>
    obtain ⟨k, hkg, rfl, rfl, hacc, hasc⟩ := hrel
    obtain ⟨Ap, cp, hv, hcp, hatp⟩ := hacc.at'
    subst hv
    have hpl : (tn.cat (bs.take k)).length ≤ 303000 := HCLEN.out _ (fun b hb => List.mem_of_mem_take hb) (by rw [List.length_take]; omega) hasc
    have hbr : Below w.heap.size w wr := HB1.out.trans (hacc.2.mono HB1.out.size)
    have HACC := Lib.hid hacc; clear hacc
    have HATP := Lib.hid hatp; clear hatp
    have HASC := Lib.hid hasc; clear hasc
    have HBR := Lib.hid hbr; clear hbr
    have hcpm : cp ≤ maxLen := own_cap HACC.out.1
    obtain ⟨m, hm⟩ : ∃ m, m = (tn.cat (bs.take k)).length := ⟨_, rfl⟩
    rw [← hm] at hcp hpl HACC HATP ⊢
    have HM := Lib.hid hm; clear hm
    obtain ⟨LV, hLV⟩ : ∃ LV, LV = tn.last (-1) (bs.take k) := ⟨_, rfl⟩
    rw [← hLV]
    have HLV := Lib.hid hLV; clear hLV
    unfold maxLen at hcpm
    cases gk with
    | succ g =>
      have hkn : k < n := by omega
      obtain ⟨b, hb⟩ : ∃ y, bs[k]? = some y := ⟨_, List.getElem?_eq_getElem (by rw [HBN.out]; exact hkn)⟩
      have hsnoc : bs.take (k + 1) = bs.take k ++ [b] := by rw [List.take_add_one, hb]; rfl
      obtain ⟨b2, o2, v2, hA, hb2l, d0, d1, d2, d3, d4, d5, hrv, -⟩ := (HBAT.out wr HBR.out).at' hb
      subst hA
      obtain ⟨Ar, cr, Vr, rfl, -⟩ := id hrv
      have hmem : b ∈ bs := List.mem_of_getElem? hb
      obtain ⟨nr, hnr⟩ : ∃ nr, nr = b.recs.length := ⟨_, rfl⟩
      have hchk := ref.check_any b Ar cr wr hrv
      have henc := fun wx (h : Below wr.heap.size wr wx) hc => ref.Encode_any b Ar cr wx (hrv.below h (Nat.le_refl _)) hc
      unfold Bat.hval at hchk henc
      rw [← hnr] at hchk henc d5
      have HCHK := Lib.hid hchk; clear hchk
      have HENC := Lib.hid henc; clear henc
      have HSN := Lib.hid (And.intro hsnoc (And.intro hmem hnr)); clear hsnoc hmem hnr hrv hb
      by_cases h100 : 100 < nr
      · go_wp2_with fail
        refine (HAW.out wr).mono ?_
        rintro e w5 ⟨rfl, hb5⟩
        have HB5 := Lib.hid (show Below w.heap.size w w5 from HBR.out.trans (hb5.mono HBR.out.size)); clear hb5
        go_wp2_with fail
        (try rw [Exit.noGoto_ret])
        go_ret
        exact ⟨rfl, HB5.out⟩
      have h100b : nr ≤ 100 := by omega
      go_wp2_with fail
      refine HCHK.out.mono ?_
      rintro e w5 ⟨rfl, hb5⟩
      have hcc := fun (j : Nat) (v : Value) (h : wr.cell? ⟨b2, o2 + k * 6 + j, none⟩ = some v) => (hb5.cell (p := ⟨b2, o2 + k * 6 + j, none⟩) hb2l).trans h
      have f0 : w5.cell? ⟨b2, o2 + k * 6, none⟩ = some (.int .i64 b.base) := (hb5.cell (p := ⟨b2, o2 + k * 6, none⟩) hb2l).trans d0
      have f1 := hcc 1 _ d1
      have f2 := hcc 2 _ d2
      have f3 := hcc 3 _ d3
      have f4 := hcc 4 _ d4
      have f5 := hcc 5 _ d5
      clear hcc d0 d1 d2 d3 d4 d5
      have HB5 := Lib.hid (show Below w.heap.size w w5 from HBR.out.trans (hb5.mono HBR.out.size))
      have HACC5 := Lib.hid (HACC.out.keep hb5)
      have HB5R := Lib.hid hb5; clear hb5
      obtain ⟨ck, hck⟩ : ∃ ck, ck = b.check := ⟨_, rfl⟩
      rw [← hck]
      have HCK := Lib.hid hck; clear hck
      by_cases hbad : ck ≠ 0 ∨ b.base ≤ LV
      · have hb2 : ck ≠ 0 ∨ (ck = 0 ∧ b.base ≤ LV) := by omega
        clear hbad
        rcases hb2 with h1 | ⟨h1, h2⟩
        · have hd0 : (ck != 0) = true := by simpa using h1
          go_wp2_with fail
          refine (HAW.out w5).mono ?_
          rintro e w6 ⟨rfl, hb6⟩
          have HB6 := Lib.hid (show Below w.heap.size w w6 from HB5.out.trans (hb6.mono HB5.out.size)); clear hb6
          go_wp2_with fail
          (try rw [Exit.noGoto_ret])
          go_ret
          exact ⟨rfl, HB6.out⟩
        · subst h1
          go_wp2_with fail
          refine (HAW.out w5).mono ?_
          rintro e w6 ⟨rfl, hb6⟩
          have HB6 := Lib.hid (show Below w.heap.size w w6 from HB5.out.trans (hb6.mono HB5.out.size)); clear hb6
          go_wp2_with fail
          (try rw [Exit.noGoto_ret])
          go_ret
          exact ⟨rfl, HB6.out⟩
      obtain rfl : ck = 0 := by omega
      have hlow : LV < b.base := by omega
      clear hbad
      go_wp2_with fail
      refine (HENC.out w5 HB5R.out HCK.out.symm).mono ?_
      rintro e w6 ⟨v6, rfl, hacc6⟩
      obtain ⟨Aq, cq, rfl, hcq, hatq⟩ := hacc6.at'
      clear f0 f1 f2 f3 f4 f5
      have HACC6 := Lib.hid (HACC5.out.keep hacc6.2)
      have HATQ := Lib.hid hatq; clear hatq
      have hbl : b.bytes.length ≤ 10100 := tn.small HCK.out.symm (HWT2.out b HSN.out.2.1)
      obtain ⟨bl, hbl2⟩ : ∃ bl, bl = b.bytes.length := ⟨_, rfl⟩
      rw [← hbl2] at hbl hcq ⊢
      have HBL := Lib.hid hbl2; clear hbl2 hacc6
      go_wp2_with (at_builtin; go_loud (refine wpList_acc rfl (.tmp 79) (.tmp 80) rfl _ _ rfl HACC6.out Aq bl cq b.bytes rfl HBL.out.symm (by rw [HBL.out]; exact HATQ.out) (by rw [← HM.out, ← HBL.out]; omega) ?_; intro v7 w7 hA7; have HA7 := Lib.hid hA7; clear hA7))
      go_roundg g
      case measure => omega
      case rel => exact ⟨k + 1, by omega, by go_num, by rw [HSN.out.1, tn.last_snoc], by rw [HSN.out.1, tn.cat_snoc]; exact HA7.out, by rw [HSN.out.1]; exact (tn.asc_snoc _ _ _).2 ⟨HASC.out, HCK.out.symm, by rw [← HLV.out]; exact hlow⟩⟩
    | zero =>
      obtain rfl : k = n := by omega
      have htk : bs.take k = bs := List.take_of_length_le (by rw [HBN.out]; exact Nat.le_refl _)
      rw [htk] at HACC HATP HASC HM HLV
      clear htk hkg
      have hcb : ∀ b ∈ bs, ∀ x ∈ b.bytes, x < 256 := fun b hb => by
        obtain ⟨j, hj⟩ := List.mem_iff_getElem?.1 hb
        obtain ⟨b2, o2, v2, -, -, -, -, -, -, -, -, hrv, -⟩ := (HBAT.out wr HBR.out).at' hj
        exact Bat.bytes_byte' (tn.asc_mem _ _ HASC.out b hb) (RecsV.byte (rs := b.recs) hrv)
      have HCB := Lib.hid hcb; clear hcb
      have hfst := ref.first_any At' ct nt T wr HTL.out (HAT.out.below HBR.out (Nat.le_refl _)) HTB.out hntc (by unfold maxLen; omega) (by omega)
      go_wp2_with fail
      refine hfst.mono ?_
      rintro e w6 hres
      obtain ⟨X, U, A', c', nv, rfl, hcase, hb6⟩ := tn.first_uni hres
      clear hres hfst
      have HACC6 := Lib.hid (HACC.out.keep hb6); clear hb6
      go_upto_region 14 with fail
      obtain ⟨w7, hw7⟩ : ∃ w7, w7 = w6.alloc (.cells #[.int .i64 X.base, .int .i64 X.last, .int .i64 X.prod, .int .i64 X.epoch, .int .i64 X.seq, .slice A' nv c'] 24) := ⟨_, rfl⟩
      rw [← hw7]
      have hb67 : Below w6.heap.size w6 w7 := by rw [hw7]; exact (Below.refl _ _).alloc (Nat.le_refl _) _
      have x0 : w7.cell? ⟨w6.heap.size, 0, none⟩ = some (.int .i64 X.base) := by
        rw [hw7]
        exact (Blk.new w6 24 #[.int .i64 X.base, .int .i64 X.last, .int .i64 X.prod, .int .i64 X.epoch, .int .i64 X.seq, .slice A' nv c']).cell 0 rfl
      clear hw7
      have HACC7 := Lib.hid (HACC6.out.keep hb67); clear hb67 HACC6 HACC HATP HBR
      have hb7 : Below w.heap.size w w7 := HB1.out.trans (HACC7.out.2.mono HB1.out.size)
      have HB7 := Lib.hid hb7; clear hb7
      by_cases hgt : 0 < U ∧ LV < X.base
      · obtain ⟨hu1, hu2⟩ := hgt
        go_wp2_with fail
        refine (HAW.out w7).mono ?_
        rintro e w8 ⟨rfl, hb8⟩
        have HB8 := Lib.hid (show Below w.heap.size w w8 from HB7.out.trans (hb8.mono HB7.out.size)); clear hb8
        go_wp2_with fail
        (try rw [Exit.noGoto_ret])
        go_ret
        exact ⟨rfl, HB8.out⟩
      have htail : ∀ x u, dec.first T = some (x, u) → x.base ≤ tn.last (-1) bs := fun x u h => by
        rw [← HLV.out]
        rcases hcase with ⟨-, h2⟩ | ⟨h1, h2⟩
        · rw [h2] at h; cases h
        · rw [h2] at h
          obtain ⟨rfl, rfl⟩ : X = x ∧ U = u := by simpa using h
          omega
      have hbyt : ∀ x ∈ tn.cat bs ++ T, x < 256 := fun x hx => by
        rcases List.mem_append.1 hx with h | h
        · exact tn.cat_byte HCB.out x h
        · exact HTB.out x h
      have hwalk := tn.walk_all HASC.out htail hbyt
      have hgood := tn.good_all HASC.out htail hbyt
      have HW := Lib.hid (And.intro hwalk (And.intro hgood hbyt)); clear hwalk hgood hbyt htail hcase
      go_cut [94] from 87 to 94 (fun s94 wx => s94 = .bool false ∧ wx = w7)
      case first =>
        by_cases hU : U = 0
        · subst hU
          go_wp2_with fail
          go_meet
          case rel => exact ⟨rfl, rfl⟩
        · have hu1 : 0 < U := by omega
          have hu2 : X.base ≤ LV := by omega
          go_wp2_with fail
          go_meet
          case rel => exact ⟨by rw [decide_eq_false (by omega)], rfl⟩
      case rest =>
        obtain ⟨rfl, rfl⟩ := hcut
        clear x0 hgt
        have hap7 : At wc Ap m (byteAt (tn.cat bs)) := by
          obtain ⟨A8, c8, e, -, h⟩ := HACC7.out.at'
          rw [← HM.out] at e h
          obtain ⟨rfl, rfl⟩ : Ap = A8 ∧ cp = c8 := by simpa using e
          exact h
        have hatw : ∀ wx, Below wc.heap.size wc wx → At wx Ap m (byteAt (tn.cat bs)) := fun wx h => hap7.below h (Nat.le_refl _)
        have HATW := Lib.hid hatw; clear hatw hap7
        have htw : ∀ wx, Below wc.heap.size wc wx → At wx At' nt (byteAt T) := fun wx h => HAT.out.below (HB7.out.trans (h.mono HB7.out.size)) (Nat.le_refl _)
        have HTW := Lib.hid htw; clear htw
        have hbw : ∀ wx, Below wc.heap.size wc wx → BatsAt wx A bs := fun wx h => HBAT.out wx (HB7.out.trans (h.mono HB7.out.size))
        have HBWC := Lib.hid hbw; clear hbw
        have hsum : ∀ wx, Below wc.heap.size wc wx → Below w.heap.size w wx := fun wx h => HB7.out.trans (h.mono HB7.out.size)
        have HSUM := Lib.hid hsum; clear hsum
        have hbel0 : Below wc.heap.size wc wc := Below.refl _ _
        go_wp2_with (first
          | (at_builtin; (refine wpList_acc rfl (.tmp 101) (.tmp 102) rfl _ _ rfl HA8.out At' nt ct T rfl HTL.out (HTW.out _ HA8.out.2) (by rw [← HM.out, HTL.out]; omega) ?_); intro v9 w9 hA9; obtain ⟨A9, c9, hv9, hle9, hat9⟩ := hA9.at'; subst hv9; have hcm9 : c9 ≤ maxLen := own_cap hA9.1; have HA9 := Lib.hid (And.intro hA9 (And.intro hle9 (And.intro hat9 hcm9))); clear hA9 hle9 hat9 hcm9; obtain ⟨m9, hm9⟩ : ∃ m9, m9 = (tn.cat bs ++ T).length := ⟨_, rfl⟩; rw [← hm9]; rw [← hm9] at HA9; have HM9 := Lib.hid hm9; clear hm9)
          | (at_builtin; (refine wpList_acc rfl (.tmp 99) (.tmp 100) rfl _ _ rfl (Acc.empty wc wc (Below.refl _ _)) Ap m cp (tn.cat bs) rfl HM.out.symm ((HATW.out wc hbel0).alloc _) (by rw [← HM.out]; simp; omega) ?_); intro v8 w8 hA8; rw [List.nil_append] at hA8; have HA8 := Lib.hid hA8; clear hA8))
        have hm9 : m9 ≤ 303200 := by rw [HM9.out, List.length_append, ← HM.out, HTL.out]; omega
        have hfd := fd.found_any A9 m9 c9 (tn.cat bs ++ T) 1000 w9 HW.out.2.2 HM9.out.symm (by omega) (by omega) HA9.out.2.2.1
        have HFD := Lib.hid hfd; clear hfd
        refine HFD.out.mono ?_
        rintro e w10 ⟨xs, Aa, ca, Al, cl, hxs, rfl, -, hatb, -, hcl, hb10⟩
        have hxb : xs.map Prod.snd = bs := by
          rw [hxs, HW.out.1, List.take_of_length_le (by rw [tn.places_len, HBN.out]; show k ≤ 1000; omega), tn.places_snd]
        have hxl : xs.length = k := by
          have h := congrArg List.length hxb
          rw [List.length_map] at h
          rw [h, HBN.out]
        rw [hxb] at hatb
        rw [hxl] at hcl ⊢
        clear hxs hxb hxl
        have hb710 : Below wc.heap.size wc w10 := HA9.out.1.2.trans (hb10.mono HA9.out.1.2.size)
        have HB10 := Lib.hid hb710; clear hb710 hb10 HFD HA8
        have hsb := ref.samebatches_any Al A cl c k bs w10 HBN.out (by omega) hcl hnc hatb (HBWC.out w10 HB10.out)
        have HSB := Lib.hid hsb; clear hsb hatb
        go_wp2_with fail
        refine HSB.out.mono ?_
        rintro e w11 ⟨rfl, hb11⟩
        have hb711 : Below wc.heap.size wc w11 := HB10.out.trans (hb11.mono HB10.out.size)
        have HB11 := Lib.hid hb711; clear hb711 hb11 HA9 HM9 hm9 hbel0
        have hbel1 : Below w11.heap.size w11 w11 := Below.refl _ _
        have HBEL := Lib.hid hbel1; clear hbel1
        go_wp2_with (first
          | (at_builtin; (refine wpList_accg rfl (.tmp 114) (.tmp 115) rfl _ _ rfl HA12.out At' nt ct T rfl HTL.out (HTW.out _ (HB11.out.trans (HA12.out.2.mono HB11.out.size))) (by rw [← HM.out, HTL.out]; omega) ?_); intro v13 w13 hA13; obtain ⟨A13, c13, hv13, hle13, hat13⟩ := hA13.at'; subst hv13; have hcm13 : c13 ≤ maxLen := own_cap hA13.1; have HA13 := Lib.hid (And.intro hA13 (And.intro hle13 (And.intro hat13 hcm13))); clear hA13 hle13 hat13 hcm13; obtain ⟨m13, hm13⟩ : ∃ m13, m13 = (tn.cat bs ++ T).length := ⟨_, rfl⟩; rw [← hm13]; rw [← hm13] at HA13; have HM13 := Lib.hid hm13; clear hm13)
          | (at_builtin; go_loud (refine wpList_accg rfl (.tmp 112) (.tmp 113) rfl _ _ rfl (Acc.empty w11 w11 HBEL.out) Ap m cp (tn.cat bs) rfl HM.out.symm ((HATW.out w11 HB11.out).alloc _) (by rw [← HM.out]; simp; omega) ?_); intro v12 w12 hA12; rw [List.nil_append] at hA12; have HA12 := Lib.hid hA12; clear hA12))
        have hm13 : m13 ≤ 303200 := by rw [HM13.out, List.length_append, ← HM.out, HTL.out]; omega
        have hgd := bat.good_any A13 m13 c13 (tn.cat bs ++ T) w13 HW.out.2.2 HM13.out.symm HA13.out.2.1 HA13.out.2.2.2 (by omega) HA13.out.2.2.1
        rw [HW.out.2.1, ← HM.out] at hgd
        have HGD := Lib.hid hgd; clear hgd
        refine HGD.out.mono ?_
        rintro e w14 ⟨rfl, hb14⟩
        have hb714 : Below wc.heap.size wc w14 := HB11.out.trans ((HA13.out.1.2.mono HB11.out.size).trans (hb14.mono (Nat.le_trans HB11.out.size HA13.out.1.2.size)))
        have HB14 := Lib.hid hb714; clear hb714 hb14 HGD HA12 HA13 HM13 hm13 HBEL HB11
        have hmm : ((m : Int) != (m : Int)) = false := by simp
        cases k with
        | zero =>
          go_wp2_with fail
          refine (HAW.out w14).mono ?_
          rintro e w15 ⟨rfl, hb15⟩
          have HB15 := Lib.hid (show Below w.heap.size w w15 from (HSUM.out w14 HB14.out).trans (hb15.mono (HSUM.out w14 HB14.out).size)); clear hb15
          go_wp2_with fail
          (try rw [Exit.noGoto_ret])
          go_ret
          exact ⟨rfl, HB15.out⟩
        | succ q =>
          obtain ⟨b, hb⟩ : ∃ y, bs[q]? = some y := ⟨_, List.getElem?_eq_getElem (by rw [HBN.out]; omega)⟩
          have hsplit : bs = bs.take q ++ [b] := by
            have h1 : bs.take (q + 1) = bs.take q ++ [b] := by rw [List.take_add_one, hb]; rfl
            rw [List.take_of_length_le (by rw [HBN.out]; exact Nat.le_refl _)] at h1
            exact h1
          obtain ⟨b2, o2, v2, hA, hb2l, d0, d1, d2, d3, d4, d5, hrv, -⟩ := (HBWC.out w14 HB14.out).at' hb
          subst hA
          obtain ⟨Ar, cr, Vr, rfl, -⟩ := id hrv
          have hck : b.check = 0 := tn.asc_mem _ _ HASC.out b (List.mem_of_getElem? hb)
          have hbb := HCB.out b (List.mem_of_getElem? hb)
          have hasc2 := HASC.out
          rw [hsplit] at hasc2
          obtain ⟨hasc3, -, -⟩ := (tn.asc_snoc _ _ _).1 hasc2
          have hcat : tn.cat bs = tn.cat (bs.take q) ++ b.bytes := by
            have h := congrArg tn.cat hsplit
            rw [tn.cat_snoc] at h
            exact h
          have hsz := ref.size_any b Ar cr w14 hrv
          have he : b.enc = b.bytes := by unfold Bat.enc; rw [if_pos hck]
          rw [he] at hsz
          obtain ⟨sz, hszl⟩ : ∃ sz, sz = b.bytes.length := ⟨_, rfl⟩
          rw [← hszl] at hsz
          obtain ⟨nr, hnr⟩ : ∃ nr, nr = b.recs.length := ⟨_, rfl⟩
          unfold Bat.hval at hsz
          rw [← hnr] at hsz d5
          have hmsz : m = (tn.cat (bs.take q)).length + sz := by rw [HM.out, hcat, List.length_append, hszl]
          have hs50 : 50 ≤ sz := by
            obtain ⟨l1, -, l3⟩ := Bat.summed_le hck
            omega
          obtain ⟨r, hr, hround⟩ := round_fix cut (sz : Int) HCUT.out (by omega) (by omega)
          have hrs : r < sz := by omega
          obtain ⟨g2, hg2⟩ : ∃ g2, g2 = (tn.cat (bs.take q)).length := ⟨_, rfl⟩
          rw [← hg2] at hmsz
          obtain ⟨h, hh⟩ : ∃ h, h = m - 1 - r := ⟨_, rfl⟩
          have hhm : h ≤ m := by omega
          have hhi : (h : Int) = (m : Int) - 1 - (r : Int) := by omega
          have hcutl : (tn.cat bs).take h = tn.cat (bs.take q) ++ b.bytes.take (sz - 1 - r) := by
            rw [hcat, List.take_append, ← hg2, List.take_of_length_le (by omega), show h - g2 = sz - 1 - r by omega]
          have hfn : dec.first (b.bytes.take (sz - 1 - r)) = none := tn.cut hck hbb (by omega)
          have htl2 : ∀ x u, dec.first (b.bytes.take (sz - 1 - r)) = some (x, u) → x.base ≤ tn.last (-1) (bs.take q) := fun x u hx => by rw [hfn] at hx; cases hx
          have hby2 : ∀ x ∈ tn.cat (bs.take q) ++ b.bytes.take (sz - 1 - r), x < 256 := fun x hx => by
            rw [← hcutl] at hx
            exact tn.cat_byte HCB.out x (List.mem_of_mem_take hx)
          have hw2 := tn.walk_all hasc3 htl2 hby2
          have hgd2 := tn.good_all hasc3 htl2 hby2
          rw [← hg2] at hgd2
          rw [← hcutl] at hw2 hgd2 hby2
          have hlen2 : ((tn.cat bs).take h).length = h := by rw [List.length_take, ← HM.out]; omega
          have hgeq : ((g2 : Int) == (m : Int) - (sz : Int)) = true := by simp; omega
          have HW2 := Lib.hid (And.intro hw2 (And.intro hgd2 (And.intro hby2 (And.intro hlen2 hgeq)))); clear hw2 hgd2 hby2 hlen2 hgeq
          have HSZ := Lib.hid hsz; clear hsz
          have HRD := Lib.hid hround; clear hround
          have HHI := Lib.hid hhi; clear hhi
          have hm1 : sz ≤ m := by omega
          clear hsplit hck hbb hasc2 hasc3 hcat he hszl hnr hmsz hg2 hh hcutl hfn htl2 hb hrv hr
          go_wp2_with fail
          refine HSZ.out.mono ?_
          rintro e w15 ⟨rfl, hb15⟩
          have HB15 := Lib.hid (HB14.out.trans (hb15.mono HB14.out.size)); clear hb15 HB14 HSZ
          clear d0 d1 d2 d3 d4 d5
          go_wp2_with fail
          refine (HRD.out w15).mono ?_
          rintro e w16 ⟨rfl, rfl⟩
          have hmi : (1 : Int) ≤ (m : Int) := by omega
          go_wp2_with (show Go.wpList _ _ _ (⟨_, .slice _ (.tmp 132) _ _ _, _, _, _, _⟩ :: _) _ _; go_loud (refine wpList_slicep rfl (.tmp 132) _ _ rfl Ap m cp 0 h rfl (.inl ⟨rfl, rfl⟩) (.inr (by rw [HHI.out]; rfl)) (by omega) hhm hcp ?_; intro A17 c17 hp hc171 hc172; have HP17 := Lib.hid hp; clear hp; rw [Nat.sub_zero] at hc171 ⊢))
          have hat17 : ∀ wx, Below wc.heap.size wc wx → At wx A17 h (byteAt ((tn.cat bs).take h)) := fun wx hx => by
            have h1 := HP17.out (tn.cat bs) HM.out.symm wx (by rw [← HM.out]; exact HATW.out wx hx)
            rw [List.drop_zero, Nat.sub_zero, HW2.out.2.2.2.1] at h1
            exact h1
          have HAT17 := Lib.hid hat17; clear hat17 HP17
          have hfd2 := fd.found_any A17 h c17 ((tn.cat bs).take h) 1000 w15 HW2.out.2.2.1 HW2.out.2.2.2.1 (by omega) (by omega) (HAT17.out w15 HB15.out)
          have HFD2 := Lib.hid hfd2; clear hfd2
          refine HFD2.out.mono ?_
          rintro e w18 ⟨ys, Ab, cb, Al2, cl2, hys, rfl, -, hatb2, -, hcl2, hb18⟩
          have hql : (bs.take q).length = q := by rw [List.length_take, HBN.out]; omega
          have hyb : ys.map Prod.snd = bs.take q := by
            rw [hys, HW2.out.1, List.take_of_length_le (by rw [tn.places_len, hql]; show q ≤ 1000; omega), tn.places_snd]
          have hyl : ys.length = q := by
            have h := congrArg List.length hyb
            rw [List.length_map, hql] at h
            exact h
          rw [hyb] at hatb2
          rw [hyl] at hcl2 ⊢
          have HB18 := Lib.hid (show Below wc.heap.size wc w18 from HB15.out.trans (hb18.mono HB15.out.size)); clear hb18
          have hsb2 := ref.samebatches_any Al2 (some ⟨b2, o2, none⟩) cl2 c q (bs.take q) w18 hql (by omega) hcl2 (by omega) hatb2 ((HBWC.out w18 HB18.out).take q)
          have HSB2 := Lib.hid hsb2; clear hsb2 hatb2 hys hyb hyl hql HFD2
          have hgeq := HW2.out.2.2.2.2
          go_wp2_with fail
          refine HSB2.out.mono ?_
          rintro e w19 ⟨rfl, hb19⟩
          have HB19 := Lib.hid (show Below wc.heap.size wc w19 from HB18.out.trans (hb19.mono HB18.out.size)); clear hb19
          have hgd3 := bat.good_any A17 h c17 ((tn.cat bs).take h) w19 HW2.out.2.2.1 HW2.out.2.2.2.1 hc171 (by unfold maxLen; omega) (by omega) (HAT17.out w19 HB19.out)
          rw [HW2.out.2.1] at hgd3
          have HGD3 := Lib.hid hgd3; clear hgd3
          go_wp2_with fail
          refine HGD3.out.mono ?_
          rintro e w20 ⟨rfl, hb20⟩
          have HB20 := Lib.hid (show Below w.heap.size w w20 from HSUM.out w20 (HB19.out.trans (hb20.mono HB19.out.size))); clear hb20
          go_wp2_with fail
          refine (HAW.out w20).mono ?_
          rintro e w21 ⟨rfl, hb21⟩
          have HB21 := Lib.hid (show Below w.heap.size w w21 from HB20.out.trans (hb21.mono HB20.out.size)); clear hb21
          go_wp2_with fail
          (try rw [Exit.noGoto_ret])
          go_ret
          exact ⟨rfl, HB21.out⟩
end Go.Proofs.Ytndingohckcmdaa

/- Rows of pairs (cordwainref10): a pair put in its place. -/
import Derived.Test.YtbbekgliaedigaaPfA
import Derived.OwnWalk
import Derived.Deep.Cut
namespace Go.Proofs.Ytbbekgliaedigaa
open Go.RowKit
set_option maxRecDepth 20000

theorem infoPair : (Try.prog.info? 122).map (fun i => (i.zero, i.size, i.bytes)) = some (some (.agg #[.slice none 0 0, .slice none 0 0, .int .i64 0]), 3, 56) := by kernel_rfl
theorem pf.row_one (l : List PItm) : ∀ j, j < l.length * 3 → ((pf.row l).getD j undef).oneCell' = true := by
  intro j hj
  obtain ⟨x, hx⟩ : ∃ x, l[j / 3]? = some x := ⟨_, List.getElem?_eq_getElem (by omega)⟩
  obtain ⟨r0, r1, r2⟩ := pf.row_at hx
  have : j % 3 = 0 ∨ j % 3 = 1 ∨ j % 3 = 2 := by omega
  rcases this with h | h | h
  · rw [show j = j / 3 * 3 by omega, r0]; rfl
  · rw [show j = j / 3 * 3 + 1 by omega, r1]; rfl
  · rw [show j = j / 3 * 3 + 2 by omega, r2]; rfl
theorem pf.row_all {l : List PItm} {n : Nat} (h : l.length = n) : cellsOf (n * 3) (fun j => (pf.row l).getD j undef) = pf.row l := by
  have := cellsOf_list (pf.row l)
  rw [pf.row_len, h] at this
  exact this
theorem pf.row_take : ∀ (l : List PItm) (i : Nat), (pf.row l).take (i * 3) = pf.row (l.take i)
  | [], i => by simp [pf.row]
  | y :: l, 0 => by simp [pf.row]
  | y :: l, i + 1 => by
    have e : pf.row (y :: l) = .slice y.A y.k y.c :: .slice y.VA y.vk y.vc :: .int .i64 y.off :: pf.row l := rfl
    rw [List.take_succ_cons, e, show (i + 1) * 3 = i * 3 + 3 by omega]
    show _ :: _ :: _ :: (pf.row l).take (i * 3) = _
    rw [pf.row_take l i]
    rfl
theorem pf.row_drop : ∀ (l : List PItm) (i : Nat), (pf.row l).drop (i * 3) = pf.row (l.drop i)
  | [], i => by simp [pf.row]
  | y :: l, 0 => by simp
  | y :: l, i + 1 => by
    have e : pf.row (y :: l) = .slice y.A y.k y.c :: .slice y.VA y.vk y.vc :: .int .i64 y.off :: pf.row l := rfl
    rw [List.drop_succ_cons, ← pf.row_drop l i, e, show (i + 1) * 3 = i * 3 + 3 by omega]
    rfl
theorem PAt.take {w : World} {A : Option Addr} {l : List PItm} (h : PAt w A l) (i : Nat) : PAt w A (l.take i) :=
  (At.le h (by rw [List.length_take]; omega)).congr fun j hj => by
    show (pf.row l).getD j undef = (pf.row (l.take i)).getD j undef
    have hj' : j < i * 3 := by rw [List.length_take] at hj; omega
    rw [← pf.row_take]
    simp only [List.getD]
    rw [List.getElem?_take_of_lt hj']
theorem PAt.drop {w : World} {A : Option Addr} {l : List PItm} (h : PAt w A l) (i : Nat) : PAt w (A.map fun a => a.add (i * 3)) (l.drop i) := fun hn => by
  rw [List.length_drop] at hn
  obtain ⟨b, off, rfl, h2, h3⟩ := h (by omega)
  refine ⟨b, off + i * 3, by simp [Addr.add], h2, fun j hj => ?_⟩
  rw [List.length_drop] at hj
  have h4 := h3 (i * 3 + j) (by omega)
  rw [Nat.add_assoc, h4, ← pf.row_drop]
  simp [List.getD]
theorem pf.run_slice (w : World) (A : Option Addr) (n c l h : Nat) (low high : Option Value) (hlo : (low = none ∧ l = 0) ∨ low = some (.int .i64 (l : Int))) (hhi : (high = none ∧ h = n) ∨ high = some (.int .i64 (h : Int))) (hlh : l ≤ h) (hhn : h ≤ n) (hnc : n ≤ c) :
    ∃ A', (Instr.sliceAt 33 (.slice A n c) low high none).run Try.prog w = .ok (.slice A' (h - l) (c - l)) w ∧ ((A' = A.map fun a => a.add (l * 3)) ∨ h - l = 0) := by
  obtain ⟨i0, hi, hz0, hz1, hz2⟩ := info_parts infoPair
  have h1 : (0 : Int) ≤ (l : Int) ∧ (l : Int) ≤ (h : Int) := by omega
  have h2 : (0 : Int) ≤ (h : Int) ∧ (h : Int) ≤ (c : Int) := by omega
  refine ⟨if c = l then A else A.map fun a => a.add (l * 3), ?_, ?_⟩
  · rcases hlo with ⟨rfl, rfl⟩ | rfl <;> rcases hhi with ⟨rfl, rfl⟩ | rfl <;>
      simp [Instr.sliceAt, Instr.slice, Instr.sliceBounds, Instr.sliceBound, run_underlying Try.underlying33, sizeOf, typeInfo, hi, hz1, asIntOf, hlh, Nat.le_trans hhn hnc]
    all_goals (have hq := Nat.le_trans hhn hnc; intros; omega)
  · by_cases e : c = l
    · exact .inr (by omega)
    · rw [if_neg e]
      exact .inl rfl
theorem pf.wpList_slice {ops : Array Oper} {rest : List Oper} {o : Oper} {a : Act} {w : World} {Q : Exit → Act → World → Prop} (hgd : o.guard = none) (x : Operand) (lo hi : Option Operand)
    (ho : o.op = .slice 33 x lo hi none) (A : Option Addr) (n c l h : Nat) (hx : a.eval x = .slice A n c) (hlo : (lo.map a.eval = none ∧ l = 0) ∨ lo.map a.eval = some (.int .i64 (l : Int))) (hhi : (hi.map a.eval = none ∧ h = n) ∨ hi.map a.eval = some (.int .i64 (h : Int))) (hlh : l ≤ h) (hhn : h ≤ n) (hnc : n ≤ c)
    (hQ : ∀ A' c', (∀ wx (L : List PItm), L.length = n → PAt wx A L → PAt wx A' ((L.drop l).take (h - l))) → h - l ≤ c' → c' ≤ c → wpList Try.prog ops Q rest (a.put o.dst (.slice A' (h - l) c')) w) : wpList Try.prog ops Q (o :: rest) a w :=
  wpList_plain hgd fun _ hK => by
    obtain ⟨A', hr, hA⟩ := pf.run_slice w A n c l h (lo.map a.eval) (hi.map a.eval) hlo hhi hlh hhn hnc
    unfold Oper.wp execOp
    simp only [ho, hx, Option.map_none, Sem.run_bind, Result.andThen_ok, hr]
    refine hK _ _ (hQ A' (c - l) (fun wx L hL hat => ?_) (by omega) (by omega))
    rcases hA with rfl | h0
    · exact (hat.drop l).take _
    · intro hn; rw [List.length_take] at hn; omega

/-- A pair put in its place. -/
def pf.put (l : List PItm) (x : PItm) : List PItm := l.take (pf.place l x.key) ++ [x] ++ l.drop (pf.place l x.key + if pf.has l x.key then 1 else 0)
def PItm.agg (x : PItm) : Value := .agg #[.slice x.A x.k x.c, .slice x.VA x.vk x.vc, .int .i64 x.off]
theorem pf.at_one {w : World} {g : Nat} {T : TypeId} {a b c : Value} (h : Blk w g T #[a, b, c]) : At w (some ⟨g, 0, none⟩) (1 * 3) (fun j => ([a, b, c] : List Value).getD j undef) := fun _ =>
  ⟨g, 0, rfl, h.lt, fun j hj => by
    rw [Nat.zero_add]
    match j, hj with
    | 0, _ => exact h.cell 0 rfl
    | 1, _ => exact h.cell 1 rfl
    | 2, _ => exact h.cell 2 rfl⟩

theorem pf.one_one (XA : Option Addr) (xk xc : Nat) (VA : Option Addr) (vk vc : Nat) (o : Int) : ∀ j, j < 1 * 3 → (([.slice XA xk xc, .slice VA vk vc, .int .i64 o] : List Value).getD j undef).oneCell' = true := fun j hj => match j, hj with
  | 0, _ => rfl
  | 1, _ => rfl
  | 2, _ => rfl
set_option maxHeartbeats 4000000 in
theorem pf.put_any (A : Option Addr) (n c : Nat) (l : List PItm) (x : PItm) (w : World) (hl : l.length = n) (hn : n ≤ 100000) (hnc : n ≤ c) (hat : PAt w A l) (hb : ∀ y ∈ l, PBytes w y) (hx : PBytes w x) :
    Calls Try.prog 69 #[.slice A n c, x.agg] w fun e w' => ∃ v, e = .returned v ∧ w'.ownsRow w.heap.size 122 3 v (pf.put l x).length (pf.row (pf.put l x)) ∧ Below w.heap.size w w' := by
  obtain ⟨XA, xk, xc, bs, VA, vk, vc, vs, xo⟩ := x
  obtain ⟨w1, hw1⟩ : ∃ w1, w1 = w.alloc (.cells #[.slice XA xk xc, .slice VA vk vc, .int .i64 xo] 122) := ⟨_, rfl⟩
  have hb1 : Below w.heap.size w w1 := by rw [hw1]; exact (Below.refl _ _).alloc (Nat.le_refl _) _
  have hx1 := hx.below hb1 (Nat.le_refl _)
  have hf := pf.find_any A n c l XA xk xc bs w1 hl (by omega) (At.below hat hb1 (Nat.le_refl _)) (fun y hy => (hb y hy).below hb1 (Nat.le_refl _)) hx1.1 hx1.2.2.1
  have hbx : Blk w1 w.heap.size 122 #[.slice XA xk xc, .slice VA vk vc, .int .i64 xo] := by rw [hw1]; exact Blk.new _ _ _
  obtain ⟨k, hk⟩ : ∃ k, k = pf.place l (strOf bs) := ⟨_, rfl⟩
  obtain ⟨t, ht⟩ : ∃ t, t = pf.has l (strOf bs) := ⟨_, rfl⟩
  have hput : pf.put l ⟨XA, xk, xc, bs, VA, vk, vc, vs, xo⟩ = l.take k ++ [⟨XA, xk, xc, bs, VA, vk, vc, vs, xo⟩] ++ l.drop (k + if t then 1 else 0) := by rw [hk, ht]; rfl
  rw [hput]
  rw [← hk, ← ht] at hf
  have hkn : k ≤ n := by rw [hk, ← hl]; exact pf.place_le _ _
  have htk : t = true → k < n := fun e => by
    rw [ht] at e
    unfold pf.has at e
    rw [← hk] at e
    cases hg : l[k]? with
    | none => rw [hg] at e; cases e
    | some y => rw [← hl]; exact (List.getElem?_eq_some_iff.1 hg).1
  have hfb : ∀ y : PItm, y.cells = [.slice y.A y.k y.c, .slice y.VA y.vk y.vc, .int .i64 y.off] := fun _ => rfl
  obtain ⟨i0, hinf⟩ := info_parts infoPair
  have HI := Lib.hid hinf; clear hinf
  have HF := Lib.hid hf; clear hf
  have HL := Lib.hid hl; clear hl
  have HAT := Lib.hid hat; clear hat
  have HB1 := Lib.hid hb1; clear hb1
  have HBX := Lib.hid hbx; clear hbx
  have HW1 := Lib.hid hw1.symm; clear hw1
  clear hk ht hput hb hx hx1
  unfold PItm.agg
  dsimp only
  go_enter Try.func69, Try.ntmps69
  go_wp2_with fail
  rw [HW1.out]
  refine HF.out.mono ?_
  rintro e w2 ⟨rfl, q, hw2⟩
  have HB2 := Lib.hid (show Below w.heap.size w w2 from by rw [hw2]; exact bdrew HB1.out q)
  have HBX2 := Lib.hid (show Blk w2 w.heap.size 122 #[.slice XA xk xc, .slice VA vk vc, .int .i64 xo] from by rw [hw2]; exact HBX.out)
  clear hw2 HF HBX HB1 HW1
  have HM := Lib.hid (show (w2.alloc (.cells #[] 122)).ownsRow w.heap.size 122 3 (.slice (some ⟨w2.heap.size, 0, none⟩) 0 0) 0 [] from World.ownsRow_made w2 #[] 0 HB2.out.size (by unfold maxLen; omega) (by simp))
  go_upto_region 3 with (show Go.wpList _ _ _ (⟨_, .slice _ (.tmp 16) _ _ _, _, _, _, _⟩ :: _) _ _; go_loud (refine pf.wpList_slice rfl (.tmp 16) _ _ rfl A n c 0 k rfl (.inl ⟨rfl, rfl⟩) (.inr rfl) (by omega) hkn hnc ?_; intro A1 c1 hp1 hc11 hc12; rw [Nat.sub_zero] at hp1 hc11 ⊢; have HP1 := Lib.hid hp1; clear hp1; refine wpList_app2 _ rfl (.tmp 15) (.tmp 18) 33 rfl w.heap.size 122 i0 _ 3 56 Try.underlying33 HI.out.1 HI.out.2.1 HI.out.2.2.1 HI.out.2.2.2 rfl (by decide) _ 0 [] rfl HM.out A1 k c1 (fun j => (pf.row (l.take k)).getD j undef) rfl (by have h := HP1.out (w2.alloc (.cells #[] 122)) l HL.out (At.below HAT.out (HB2.out.alloc HB2.out.size _) (Nat.le_refl _)); rw [List.drop_zero] at h; unfold PAt at h; rw [List.length_take, HL.out, Nat.min_eq_left hkn] at h; exact h) (by have h := pf.row_one (l.take k); rw [List.length_take, HL.out, Nat.min_eq_left hkn] at h; exact h) (by unfold maxLen; omega) (by omega) (by have := HB2.out.size; simp; omega) ?_; intro v2 w3 hown hg hl3; rw [List.nil_append, pf.row_all (l := l.take k) (n := k) (by rw [List.length_take, HL.out, Nat.min_eq_left hkn]), Nat.zero_add] at hown; have HO3 := Lib.hid hown; have HB3 := Lib.hid ((HB2.out.alloc HB2.out.size _).grown hg (by have := HB2.out.size; simp; omega) fun j hj => (HM.out.lt j hj).1); have HBX3 := Lib.hid (show Blk w3 w.heap.size 122 #[.slice XA xk xc, .slice VA vk vc, .int .i64 xo] from (Chg.grown (show (w2.alloc (.cells #[] 122)).grownBy w3 (Value.slice (some ⟨w2.heap.size, 0, none⟩) 0 0).ownBlock from hg)).blk ((Chg.alloc w2 _ (fun _ => False)).blk HBX2.out id) fun e => by have e2 : w2.heap.size = w.heap.size := (by simpa [Value.ownBlock] using e); have := HBX2.out.lt; omega); clear hown hl3 hg))
  have e0 := HBX3.out.cell 0 rfl
  have e1 := HBX3.out.cell 1 rfl
  have e2 := HBX3.out.cell 2 rfl
  have HM3 := Lib.hid (show (w3.alloc (.cells #[.slice XA xk xc, .slice VA vk vc, .int .i64 xo] 122)).ownsRow w.heap.size 122 3 v2 k (pf.row (l.take k)) from HO3.out.alloc _)
  have HBA3 := Lib.hid (show Below w.heap.size w (w3.alloc (.cells #[.slice XA xk xc, .slice VA vk vc, .int .i64 xo] 122)) from HB3.out.alloc HB3.out.size _)
  go_upto_region 4 with (at_builtin; go_loud (refine wpList_app2 _ rfl (.tmp 20) (.tmp 22) 33 rfl w.heap.size 122 i0 _ 3 56 Try.underlying33 HI.out.1 HI.out.2.1 HI.out.2.2.1 HI.out.2.2.2 rfl (by decide) _ k (pf.row (l.take k)) rfl HM3.out (some ⟨w3.heap.size, 0, none⟩) 1 1 (fun j => ([.slice XA xk xc, .slice VA vk vc, .int .i64 xo] : List Value).getD j undef) rfl (pf.at_one (Blk.new w3 122 _)) (pf.one_one _ _ _ _ _ _ _) (by unfold maxLen; omega) (by omega) (by have := HB3.out.size; simp; omega) ?_; intro v4 w4 hown hg hl4; rw [show cellsOf (1 * 3) (fun j => ([.slice XA xk xc, .slice VA vk vc, .int .i64 xo] : List Value).getD j undef) = pf.row [⟨XA, xk, xc, bs, VA, vk, vc, vs, xo⟩] from cellsOf_list _, ← pf.row_append] at hown; have HO4 := Lib.hid hown; have HB4 := Lib.hid (HBA3.out.grown hg HBA3.out.size fun j hj => (HM3.out.lt j hj).1); clear hown hl4 hg))
  clear e0 e1 e2
  cases t
  · have hkn1 : k ≤ n := hkn
    clear htk
    go_wp2_with (show Go.wpList _ _ _ (⟨_, .slice _ (.tmp 28) _ _ _, _, _, _, _⟩ :: _) _ _; go_loud (refine pf.wpList_slice rfl (.tmp 28) _ _ rfl A n c k n rfl (.inr rfl) (.inl ⟨rfl, rfl⟩) hkn1 (Nat.le_refl _) hnc ?_; intro A2 c2 hp2 hc21 hc22; have HP2 := Lib.hid hp2; clear hp2; refine wpList_app2 _ rfl (.tmp 27) (.tmp 30) 33 rfl w.heap.size 122 i0 _ 3 56 Try.underlying33 HI.out.1 HI.out.2.1 HI.out.2.2.1 HI.out.2.2.2 rfl (by decide) _ (k + 1) _ rfl HO4.out A2 (n - k) c2 (fun j => (pf.row (l.drop k)).getD j undef) rfl (by have h := HP2.out w4 l HL.out (At.below HAT.out HB4.out (Nat.le_refl _)); rw [List.take_of_length_le (by rw [List.length_drop, HL.out]; exact Nat.le_refl _)] at h; unfold PAt at h; rw [List.length_drop, HL.out] at h; exact h) (by have h := pf.row_one (l.drop k); rw [List.length_drop, HL.out] at h; exact h) (by unfold maxLen; omega) (by omega) HB4.out.size ?_; intro v6 w6 hown hg hl6; rw [pf.row_all (l := l.drop k) (n := n - k) (by rw [List.length_drop, HL.out]), ← pf.row_append] at hown; have HO6 := Lib.hid hown; have HB6 := Lib.hid (HB4.out.grown hg HB4.out.size fun j hj => (HO4.out.lt j hj).1); clear hown hl6 hg))
    go_ret
    refine ⟨_, rfl, ?_, HB6.out⟩
    have ex : ∀ y : PItm, l.take k ++ y :: l.drop k = l.take k ++ [y] ++ l.drop k := fun y => by simp
    rw [show min k l.length + (l.length - k + 1) = k + 1 + (n - k) from by rw [HL.out]; omega, ex]
    exact HO6.out
  · have hkn1 : k + 1 ≤ n := htk rfl
    clear htk
    go_wp2_with (show Go.wpList _ _ _ (⟨_, .slice _ (.tmp 28) _ _ _, _, _, _, _⟩ :: _) _ _; go_loud (refine pf.wpList_slice rfl (.tmp 28) _ _ rfl A n c (k + 1) n rfl (.inr (by rw [Int.natCast_add]; rfl)) (.inl ⟨rfl, rfl⟩) hkn1 (Nat.le_refl _) hnc ?_; intro A2 c2 hp2 hc21 hc22; have HP2 := Lib.hid hp2; clear hp2; refine wpList_app2 _ rfl (.tmp 27) (.tmp 30) 33 rfl w.heap.size 122 i0 _ 3 56 Try.underlying33 HI.out.1 HI.out.2.1 HI.out.2.2.1 HI.out.2.2.2 rfl (by decide) _ (k + 1) _ rfl HO4.out A2 (n - (k + 1)) c2 (fun j => (pf.row (l.drop (k + 1))).getD j undef) rfl (by have h := HP2.out w4 l HL.out (At.below HAT.out HB4.out (Nat.le_refl _)); rw [List.take_of_length_le (by rw [List.length_drop, HL.out]; exact Nat.le_refl _)] at h; unfold PAt at h; rw [List.length_drop, HL.out] at h; exact h) (by have h := pf.row_one (l.drop (k + 1)); rw [List.length_drop, HL.out] at h; exact h) (by unfold maxLen; omega) (by omega) HB4.out.size ?_; intro v6 w6 hown hg hl6; rw [pf.row_all (l := l.drop (k + 1)) (n := n - (k + 1)) (by rw [List.length_drop, HL.out]), ← pf.row_append] at hown; have HO6 := Lib.hid hown; have HB6 := Lib.hid (HB4.out.grown hg HB4.out.size fun j hj => (HO4.out.lt j hj).1); clear hown hl6 hg))
    go_ret
    refine ⟨_, rfl, ?_, HB6.out⟩
    have ex : ∀ y : PItm, l.take k ++ y :: l.drop (k + 1) = l.take k ++ [y] ++ l.drop (k + 1) := fun y => by simp
    rw [show min k l.length + (l.length - (k + 1) + 1) = k + 1 + (n - (k + 1)) from by rw [HL.out]; omega, ex]
    exact HO6.out
end Go.Proofs.Ytbbekgliaedigaa

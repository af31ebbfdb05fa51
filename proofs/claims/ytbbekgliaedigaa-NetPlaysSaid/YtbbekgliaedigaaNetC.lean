/- net: what is gone is left out (slices.IndexFunc and DeleteFunc of a line). -/
import Derived.Test.YtbbekgliaedigaaNetA
namespace Go.Proofs.Ytbbekgliaedigaa
open Go.RowKit

theorem own_set {w : World} {base : Nat} {e : TypeId} {size g n c : Nat} {xs : List Value} (h : w.ownsRow base e size (.slice (some ⟨g, 0, none⟩) n c) n xs) (j : Nat) (v : Value) :
    (w.setCell ⟨g, j, none⟩ v).ownsRow base e size (.slice (some ⟨g, 0, none⟩) n c) n (xs.set j v) := by
  refine ⟨by rw [List.length_set]; exact h.1, ?_⟩
  rcases h.2 with ⟨h1, -⟩ | ⟨g', cap, cur, h1, h3, h4, h5, h6, h7, h8⟩
  · cases h1
  · obtain ⟨rfl, rfl⟩ : g = g' ∧ c = cap := by simpa using h1
    exact .inr ⟨g, c, cur.setIfInBounds j v, rfl, h3, Blk.set (T := e) h4 j v, h5, h6, by simpa using h7, by rw [Array.toList_setIfInBounds, List.take_set, h8]⟩
theorem own_take {w : World} {base : Nat} {e : TypeId} {size g n c : Nat} {xs : List Value} (h : w.ownsRow base e size (.slice (some ⟨g, 0, none⟩) n c) n xs) (i : Nat) (hi : i ≤ n) :
    w.ownsRow base e size (.slice (some ⟨g, 0, none⟩) i c) i (xs.take (i * size)) := by
  have hle : i * size ≤ n * size := Nat.mul_le_mul_right _ hi
  refine ⟨by rw [List.length_take, h.1]; exact Nat.min_eq_left hle, ?_⟩
  rcases h.2 with ⟨h1, -⟩ | ⟨g', cap, cur, h1, h3, h4, h5, h6, h7, h8⟩
  · cases h1
  · obtain ⟨rfl, rfl⟩ : g = g' ∧ c = cap := by simpa using h1
    exact .inr ⟨g, c, cur, rfl, h3, h4, Nat.le_trans hi h5, h6, h7, by rw [← h8, List.take_take, Nat.min_eq_left hle]⟩
theorem own_setCells {base : Nat} {e : TypeId} {size g n c : Nat} : ∀ (zs : List Value) (o : Nat) (w : World) (xs : List Value), w.ownsRow base e size (.slice (some ⟨g, 0, none⟩) n c) n xs →
    ∃ ys, (w.setCells g o zs).ownsRow base e size (.slice (some ⟨g, 0, none⟩) n c) n ys ∧ ys.take o = xs.take o
  | [], _, w, xs, h => ⟨xs, h, rfl⟩
  | z :: zs, o, w, xs, h => by
    obtain ⟨ys, h1, h2⟩ := own_setCells zs (o + 1) _ _ (own_set h o z)
    refine ⟨ys, h1, ?_⟩
    have h3 := congrArg (List.take o) h2
    rw [List.take_take, List.take_take, Nat.min_eq_left (Nat.le_succ o), List.take_set_of_le (Nat.le_refl o)] at h3
    exact h3
theorem chg_setCells (g : Nat) : ∀ (zs : List Value) (o : Nat) (w : World), Chg w (w.setCells g o zs) (fun k => k = g)
  | [], _, w => Chg.refl w _
  | z :: zs, o, w => (Chg.setCell w g o z).trans (chg_setCells g zs (o + 1) _) fun _ _ h => h

theorem net.row_cons (x : NItm) (l : List NItm) : net.row (x :: l) = .int .i64 x.id :: .slice x.A x.k x.c :: .bool x.gone :: net.row l := rfl
theorem net.row_set : ∀ (l : List NItm) (i : Nat) (x : NItm), (((net.row l).set (i * 3) (.int .i64 x.id)).set (i * 3 + 1) (.slice x.A x.k x.c)).set (i * 3 + 2) (.bool x.gone) = net.row (l.set i x)
  | [], i, x => by simp [net.row]
  | y :: l, 0, x => by rw [List.set_cons_zero, net.row_cons, net.row_cons]; rfl
  | y :: l, i + 1, x => by
    rw [List.set_cons_succ, net.row_cons, net.row_cons, ← net.row_set l i x, show (i + 1) * 3 = i * 3 + 3 by omega]
    rfl
theorem net.row_take : ∀ (l : List NItm) (i : Nat), (net.row l).take (i * 3) = net.row (l.take i)
  | [], i => by simp [net.row]
  | y :: l, 0 => by simp [net.row]
  | y :: l, i + 1 => by
    rw [List.take_succ_cons, net.row_cons, net.row_cons, ← net.row_take l i, show (i + 1) * 3 = i * 3 + 3 by omega]
    rfl
/-- A line's cells, one by one. -/
theorem net.row_cells {w : World} {base g n c i : Nat} {l : List NItm} {x : NItm} (h : w.ownsRow base 149 3 (.slice (some ⟨g, 0, none⟩) n c) n (net.row l)) (hx : l[i]? = some x) :
    w.cell? ⟨g, i * 3, none⟩ = some (.int .i64 x.id) ∧ w.cell? ⟨g, i * 3 + 1, none⟩ = some (.slice x.A x.k x.c) ∧ w.cell? ⟨g, i * 3 + 2, none⟩ = some (.bool x.gone) ∧ g < w.heap.size := by
  have hi : i < l.length := (List.getElem?_eq_some_iff.1 hx).1
  have hlen := net.row_len l
  obtain ⟨r0, r1, r2⟩ := net.row_at hx
  have hc : ∀ j, j < l.length * 3 → w.cell? ⟨g, j, none⟩ = some ((net.row l).getD j undef) := fun j hj => by
    have := h.cells (g := g) rfl j _ (by rw [List.getElem?_eq_getElem (by omega)])
    rw [add_none, Nat.zero_add] at this
    rw [this, List.getD, List.getElem?_eq_getElem (by omega)]
    rfl
  exact ⟨by rw [hc _ (by omega), r0], by rw [hc _ (by omega), r1], by rw [hc _ (by omega), r2], (h.lt g rfl).2⟩

theorem net.del_any (id : Int) (A : Option Addr) (k c : Nat) (gn : Bool) (w : World) :
    Calls Try.prog 104 #[.agg #[.int .i64 id, .slice A k c, .bool gn]] w fun e w' => e = .returned (.bool gn) ∧ Below w.heap.size w w' := by
  go_enter Try.func104, Try.ntmps104
  go_wp2
  go_ret
  refine ⟨rfl, ?_⟩
  go_grown

/-- The first that is gone. -/
def net.first (l : List NItm) : Int := match l.findIdx? (fun x => x.gone) with | some i => (i : Int) | none => -1

set_option maxHeartbeats 1000000 in
theorem net.index_any (base g c n : Nat) (l : List NItm) (w : World) (hl : l.length = n) (hn : n ≤ 1000000000) (h : w.ownsRow base 149 3 (.slice (some ⟨g, 0, none⟩) n c) n (net.row l)) :
    Calls Try.prog 112 #[.slice (some ⟨g, 0, none⟩) n c, .func (.func 104) #[] #[]] w fun e w' => e = .returned (.int .i64 (net.first l)) ∧ Below w.heap.size w w' := by
  have HO := Lib.hid h; clear h
  have HL := Lib.hid hl; clear hl
  have hpost : ∀ x : Int, x = net.first l → Ending.returned (.int .i64 x) = Ending.returned (.int .i64 (net.first l)) := fun x h => by rw [h]
  have HPOST := Lib.hid hpost; clear hpost
  go_enter Try.func112, Try.ntmps112
  go_wp2_with fail
  go_loopw [8] (fun i wr => ∃ j : Nat, j ≤ n ∧ i = .int .i64 (j : Int) ∧ (∀ i x, l[i]? = some x → i < j → x.gone = false) ∧ Below w.heap.size w wr) (fun i _ => n - (intOf i).toNat)
  case atStart => exact ⟨0, by omega, rfl, fun _ _ _ h => by omega, Below.refl _ _⟩
  case round =>
    obtain ⟨j, hj, rfl, hno, hbw⟩ := hrel
    have HBW := Lib.hid hbw; clear hbw
    have HNO := Lib.hid hno; clear hno
    by_cases hlt : j < n
    · obtain ⟨x, hx⟩ : ∃ x, l[j]? = some x := ⟨_, List.getElem?_eq_getElem (by have := HL.out; omega)⟩
      obtain ⟨d0, d1, d2, hgl⟩ := net.row_cells (own_below HO.out HBW.out) hx
      have HX := Lib.hid hx; clear hx
      obtain ⟨id, A, k, cc, gn, bs⟩ := x
      dsimp only at d0 d1 d2
      go_wp2_with fail
      refine (net.del_any id A k cc gn wr).mono ?_
      rintro e w2 ⟨rfl, hb2⟩
      have HB2 := Lib.hid (HBW.out.trans (hb2.mono HBW.out.size)); clear hb2 d0 d1 d2
      cases gn with
      | true =>
        have hf : (j : Int) = net.first l := by
          unfold net.first
          have hfi : l.findIdx? (fun x => x.gone) = some j := by
            rw [List.findIdx?_eq_some_iff_getElem]
            refine ⟨(List.getElem?_eq_some_iff.1 HX.out).1, by rw [(List.getElem?_eq_some_iff.1 HX.out).2], fun i hi => ?_⟩
            have hil : i < l.length := by have := (List.getElem?_eq_some_iff.1 HX.out).1; omega
            have := HNO.out i l[i] (List.getElem?_eq_getElem hil) hi
            simp [this]
          rw [hfi]
        have HF := Lib.hid hf; clear hf
        go_wp2
        go_ret
        exact ⟨HPOST.out _ HF.out, HB2.out⟩
      | false =>
        go_wp2
        go_roundw
        case rel =>
          refine ⟨j + 1, by omega, by go_num, fun i x hx hi => ?_, HB2.out⟩
          rcases Nat.lt_or_ge i j with h' | h'
          · exact HNO.out i x hx h'
          · obtain rfl : i = j := by omega
            rw [HX.out] at hx
            cases hx
            rfl
        case measure => simp [intOf]; omega
    · have hf : (-1 : Int) = net.first l := by
        unfold net.first
        have hfi : l.findIdx? (fun x => x.gone) = none := by
          rw [List.findIdx?_eq_none_iff]
          intro x hx
          obtain ⟨i, hi⟩ := List.getElem?_of_mem hx
          have := HNO.out i x hi (by have := (List.getElem?_eq_some_iff.1 hi).1; have := HL.out; omega)
          simp [this]
        rw [hfi]
      have HF := Lib.hid hf; clear hf
      go_wp2
      go_ret
      exact ⟨HPOST.out _ HF.out, HBW.out⟩

theorem net.row_frozen {w : World} {base g n c : Nat} {xs : List Value} (h : w.ownsRow base 149 3 (.slice (some ⟨g, 0, none⟩) n c) n xs) (j : Nat) : w.frozen? ⟨g, j, none⟩ = false := by
  rcases h.2 with ⟨h1, -⟩ | ⟨g', cap, cur, h1, h3, h4, -⟩
  · cases h1
  · obtain ⟨rfl, rfl⟩ : g = g' ∧ c = cap := by simpa using h1
    exact Blk.frozen (T := 149) (cs := cur) h4 j
theorem zero_item (w : World) : (zeroValue 149).run Try.prog w = .ok (.agg #[.int .i64 0, .slice none 0 0, .bool false]) w := by
  obtain ⟨i, h1, h2, _⟩ := info_parts infoItem
  simp [zeroValue, typeInfo, h1, h2]
theorem net.clear_run {w : World} {base g n c : Nat} {xs : List Value} (h : w.ownsRow base 149 3 (.slice (some ⟨g, 0, none⟩) n c) n xs) (a k c' : Nat) (hk : 0 < k) (ha : a + k ≤ n) (ty : TypeId) :
    ∃ zs, (Builtin.clear_ #[145] ty #[.slice (some ⟨g, a * 3, none⟩) k c']).run Try.prog w = .ok (.tuple #[]) (w.setCells g (a * 3) zs) := by
  obtain ⟨zs, hzs⟩ : ∃ zs, zs = (Builtin.zeroCells (Value.agg #[.int .i64 0, .slice none 0 0, .bool false]).cells k).toList := ⟨_, rfl⟩
  have hlen : zs.length = k * 3 := by rw [hzs]; simp [Builtin.zeroCells, Value.cells]
  have hone : ∀ v ∈ zs, v.oneCell' = true := by
    intro v hv
    rw [hzs] at hv
    simp only [Builtin.zeroCells, Array.toList_map, List.mem_map, Value.cells] at hv
    obtain ⟨i, -, rfl⟩ := hv
    have h3 : i % 3 < 3 := Nat.mod_lt _ (by omega)
    have e : (#[Value.int .i64 0, .slice none 0 0, .bool false] : Array Value).size = 3 := rfl
    rw [e]
    generalize i % 3 = q at *
    match q, h3 with
    | 0, _ => rfl
    | 1, _ => rfl
    | 2, _ => rfl
  have hst := run_storeCells_cells (P := Try.prog) g (a * 3) zs 0 w (fun j hj => by
    rw [hlen] at hj
    have hx := h.1
    have := h.cells (g := g) rfl (a * 3 + 0 + j) _ (by rw [List.getElem?_eq_getElem (by omega)])
    rw [add_none, Nat.zero_add] at this
    rw [this]; rfl) (fun j _ => net.row_frozen h _) hone
  simp only [Nat.add_zero] at hst
  obtain ⟨m, rfl⟩ : ∃ m, k = m + 1 := ⟨k - 1, by omega⟩
  refine ⟨zs, ?_⟩
  simp [Builtin.clear_, run_underlying Try.underlying145, ← hzs, hst]

/-- What waits of a line. -/
def net.left (l : List NItm) : List NItm := l.filter fun x => !x.gone
theorem net.left_take (l : List NItm) (j : Nat) (x : NItm) (h : l[j]? = some x) : net.left (l.take (j + 1)) = net.left (l.take j) ++ (if x.gone then [] else [x]) := by
  unfold net.left
  rw [List.take_add_one, h, List.filter_append]
  cases hx : x.gone <;> simp [hx]
theorem net.left_all (l : List NItm) (h : net.first l = -1) : net.left l = l := by
  unfold net.left
  rw [List.filter_eq_self]
  intro x hx
  unfold net.first at h
  cases hf : l.findIdx? (fun x => x.gone) with
  | some i => rw [hf] at h; dsimp only at h; omega
  | none =>
    rw [List.findIdx?_eq_none_iff] at hf
    simpa using hf x hx
theorem net.left_first (l : List NItm) (h : net.first l ≠ -1) : ∃ i x, net.first l = (i : Nat) ∧ i < l.length ∧ l[i]? = some x ∧ x.gone = true ∧ net.left (l.take (i + 1)) = l.take i := by
  unfold net.first at h ⊢
  cases hf : l.findIdx? (fun x => x.gone) with
  | none => rw [hf] at h; exact absurd rfl h
  | some i =>
    rw [List.findIdx?_eq_some_iff_getElem] at hf
    obtain ⟨h1, h2, h3⟩ := hf
    refine ⟨i, l[i], rfl, h1, List.getElem?_eq_getElem h1, h2, ?_⟩
    rw [net.left_take l i l[i] (List.getElem?_eq_getElem h1), h2, if_pos rfl, List.append_nil]
    unfold net.left
    rw [List.filter_eq_self]
    intro x hx
    obtain ⟨k, hk, rfl⟩ := List.getElem_of_mem hx
    rw [List.length_take] at hk
    have := h3 k (by omega)
    rw [List.getElem_take]
    simpa using this

set_option maxHeartbeats 2000000 in
theorem net.delete_any (base g c n : Nat) (l : List NItm) (w : World) (hl : l.length = n) (hn : n ≤ 1000000000) (h : w.ownsRow base 149 3 (.slice (some ⟨g, 0, none⟩) n c) n (net.row l)) :
    Calls Try.prog 103 #[.slice (some ⟨g, 0, none⟩) n c, .func (.func 104) #[] #[]] w fun e w' =>
      ∃ v, e = .returned v ∧ w'.ownsRow base 149 3 v (net.left l).length (net.row (net.left l)) ∧ Chg w w' (fun k => k = g) := by
  have HO := Lib.hid h; clear h
  have HL := Lib.hid hl; clear hl
  go_enter Try.func103, Try.ntmps103
  go_wp2_with fail
  refine (net.index_any base g c n l w HL.out hn HO.out).mono ?_
  rintro e w1 ⟨rfl, hb1⟩
  by_cases hf : net.first l = -1
  · rw [hf]
    have HF := Lib.hid hf; clear hf
    have HB1 := Lib.hid hb1; clear hb1
    go_wp2
    go_ret
    exact ⟨_, rfl, by rw [net.left_all l HF.out, HL.out]; exact own_below HO.out HB1.out, chg_of HB1.out⟩
  · obtain ⟨i0, x0, hi0, hin, hx0, hg0, hl0⟩ := net.left_first l hf
    rw [hi0]
    rw [HL.out] at hin
    clear hf hi0 hg0 hx0
    have HL0 := Lib.hid hl0; clear hl0
    have hd0 : ((i0 : Int) == -1) = false := by simp
    have HB1 := Lib.hid hb1; clear hb1
    go_wp2_with fail
    clear hd0
    go_loopw [5, 6] (fun i j wr => ∃ (a b : Nat) (cur : List NItm), i = .int .i64 (a : Int) ∧ j = .int .i64 (b : Int) ∧ a < b ∧ b ≤ n ∧ cur.length = n ∧ cur.take a = net.left (l.take b) ∧ cur.drop b = l.drop b ∧ (net.left (l.take b)).length = a ∧ wr.ownsRow base 149 3 (.slice (some ⟨g, 0, none⟩) n c) n (net.row cur) ∧ Chg w wr (fun k => k = g)) (fun _ j _ => n - (intOf j).toNat)
    case atStart => exact ⟨i0, i0 + 1, l, rfl, by go_num, by omega, by omega, HL.out, HL0.out.symm, rfl, by rw [HL0.out, List.length_take, HL.out]; omega, own_below HO.out HB1.out, chg_of HB1.out⟩
    case round =>
      obtain ⟨a, b, cur, rfl, rfl, hab, hbn, hcl, hta, hdr, hla, hown, hch⟩ := hrel
      have HTA := Lib.hid hta; clear hta
      have HDR := Lib.hid hdr; clear hdr
      have HLA := Lib.hid hla; clear hla
      have HCL := Lib.hid hcl; clear hcl
      have HCH := Lib.hid hch; clear hch
      by_cases hlt : b < n
      · obtain ⟨x, hx⟩ : ∃ x, l[b]? = some x := ⟨_, List.getElem?_eq_getElem (by have := HL.out; omega)⟩
        have hxc : cur[b]? = some x := by
          have := congrArg (fun l => l[0]?) HDR.out
          simp only [List.getElem?_drop, Nat.add_zero] at this
          rw [this, hx]
        obtain ⟨d0, d1, d2, hgl⟩ := net.row_cells hown hxc
        have HX := Lib.hid hx; clear hx
        have HO2 := Lib.hid hown; clear hown hxc
        obtain ⟨id, A, k, cc, gn, bs⟩ := x
        dsimp only at d0 d1 d2
        go_wp2_with fail
        refine (net.del_any id A k cc gn _).mono ?_
        rintro e w2 ⟨rfl, hb2⟩
        have hbx : Blk w2 wr.heap.size 149 #[.int .i64 id, .slice A k cc, .bool gn] := (chg_of (P := fun _ => False) hb2).blk (Blk.new wr _ _) fun h => h
        have hbw : Below wr.heap.size wr w2 := ((Below.refl _ wr).alloc (Nat.le_refl _) _).trans (hb2.mono (by simp))
        have ho2 := own_below HO2.out hbw
        have hc2 := HCH.out.trans (chg_of (P := fun k => k = g) hbw) fun _ _ h => h
        clear hb2 d0 d1 d2 HO2 HCH
        have HC2 := Lib.hid hc2; clear hc2
        cases gn with
        | true =>
          have HO3 := Lib.hid ho2; clear ho2 hbx
          go_wp2
          go_roundw
          case rel =>
            exact ⟨a, b + 1, cur, rfl, by go_num, by omega, by omega, HCL.out, by rw [net.left_take l b _ HX.out, if_pos rfl, List.append_nil]; exact HTA.out,
              by have := congrArg (List.drop 1) HDR.out; rw [List.drop_drop, List.drop_drop] at this; exact this, by rw [net.left_take l b _ HX.out, if_pos rfl, List.append_nil]; exact HLA.out, HO3.out, HC2.out⟩
          case measure => simp [intOf]; omega
        | false =>
          obtain ⟨y, hy⟩ : ∃ y, cur[a]? = some y := ⟨_, List.getElem?_eq_getElem (by have := HCL.out; omega)⟩
          obtain ⟨f0, f1, f2, hgl2⟩ := net.row_cells ho2 hy
          have hfr := fun j => net.row_frozen ho2 j
          have e0 := hbx.cell 0 rfl
          have e1 := hbx.cell 1 rfl
          have e2 := hbx.cell 2 rfl
          have hbl := hbx.lt
          have HO3 := Lib.hid ho2; clear ho2 hbx hy
          have hset := own_set (own_set (own_set HO3.out (a * 3) (.int .i64 id)) (a * 3 + 1) (.slice A k cc)) (a * 3 + 2) (.bool false)
          rw [net.row_set cur a ⟨id, A, k, cc, false, bs⟩] at hset
          have hc3 := HC2.out.trans (((Chg.setCell w2 g (a * 3) (.int .i64 id)).trans (Chg.setCell _ g (a * 3 + 1) (.slice A k cc)) fun _ _ h => h).trans (Chg.setCell _ g (a * 3 + 2) (.bool false)) fun _ _ h => h) fun _ _ h => h
          have HO4 := Lib.hid hset; clear hset
          have HC3 := Lib.hid hc3; clear hc3
          go_wp2
          go_roundw
          case rel =>
            refine ⟨a + 1, b + 1, cur.set a ⟨id, A, k, cc, false, bs⟩, by go_num, by go_num, by omega, by omega, by rw [List.length_set]; exact HCL.out, ?_, ?_, ?_, HO4.out, HC3.out⟩
            · rw [net.left_take l b _ HX.out, if_neg (by simp), ← HTA.out, List.take_add_one, List.getElem?_set_self (by have := HCL.out; omega), List.take_set_of_le (Nat.le_refl _)]
              rfl
            · rw [List.drop_set_of_lt (by omega)]
              have := congrArg (List.drop 1) HDR.out; rw [List.drop_drop, List.drop_drop] at this; exact this
            · rw [net.left_take l b _ HX.out, if_neg (by simp), List.length_append, HLA.out]; rfl
          case measure => simp [intOf]; omega
      · obtain rfl : b = n := by omega
        have hla : (net.left l).length = a := by rw [← HLA.out, ← HL.out, List.take_length]
        have hta : cur.take a = net.left l := by rw [HTA.out, ← HL.out, List.take_length]
        obtain ⟨zs, hz⟩ := net.clear_run hown a (b - a) (c - a) (by omega) (by omega) 0
        obtain ⟨ys, hys, hyt⟩ := own_setCells zs (a * 3) wr _ hown
        have ho5 := own_take hys a (by omega)
        rw [hyt, net.row_take, hta] at ho5
        have hc5 := HCH.out.trans (chg_setCells g zs (a * 3) wr) fun _ _ h => h
        have hbc : b ≤ c := by
          rcases hown.2 with ⟨h1, -⟩ | ⟨g', cap, cur', h1, -, -, h5, -⟩
          · cases h1
          · obtain ⟨-, rfl⟩ : g = g' ∧ c = cap := by simpa using h1
            omega
        have hfin : ∃ v, (Ending.returned (Value.slice (some ⟨g, 0, none⟩) a c)) = Ending.returned v ∧ (wr.setCells g (a * 3) zs).ownsRow base 149 3 v (net.left l).length (net.row (net.left l)) ∧ Chg w (wr.setCells g (a * 3) zs) (fun k => k = g) := ⟨_, rfl, by rw [hla]; exact ho5, hc5⟩
        have HFIN := Lib.hid hfin
        clear hfin hys hyt ho5 hc5 hla hta hown HTA HDR HLA HCL HCH HO HL HL0 HB1
        go_wp2
        go_ret
        exact HFIN.out
end Go.Proofs.Ytbbekgliaedigaa

/- The document's disk in memory (RefD), act by act. -/
import Derived.Test.YthffkbcjidbdaaaDmX
import Derived.Test.YthffkbcjidbdaaaDkO
import Derived.Test.YthffkbcjidbdaaaPlanE
import Derived.Deep.CutBlock
import Derived.BigQuiet
namespace Go.Proofs.Ythffkbcjidbdaaa
section
open Go.RowKit Go.Maps
set_option maxRecDepth 100000

theorem rf.infoName : (Try.prog.info? 78).map (fun i => (i.zero, i.size, i.bytes)) = some (some (.agg #[.string (ByteArray.mk #[]), .int .i64 0]), 2, 24) := by kernel_rfl
def rf.ncells (x : ByteArray × Nat) : List Value := [.string x.1, .int .i64 (x.2 : Int)]
def rf.nrow (l : RNames) : List Value := (l.map rf.ncells).flatten
theorem rf.nrow_len (l : RNames) : (rf.nrow l).length = l.length * 2 := flat_len rf.ncells 2 (fun _ => rfl) l
theorem rf.nrow_append (a b : RNames) : rf.nrow (a ++ b) = rf.nrow a ++ rf.nrow b := by simp [rf.nrow]
theorem rf.nrow_at {l : RNames} {i : Nat} {x : ByteArray × Nat} (h : l[i]? = some x) : (rf.nrow l).getD (i * 2) undef = .string x.1 ∧ (rf.nrow l).getD (i * 2 + 1) undef = .int .i64 (x.2 : Int) :=
  ⟨flat_get rf.ncells 2 (fun _ => rfl) l i 0 x h (by omega), flat_get rf.ncells 2 (fun _ => rfl) l i 1 x h (by omega)⟩
theorem own_pos4 {w : World} {base : Nat} {e : TypeId} {size : Nat} {v : Value} {n : Nat} {xs : List Value} (h : w.ownsRow base e size v n xs) (hn : 0 < n) :
    ∃ g c, v = .slice (some ⟨g, 0, none⟩) n c ∧ n ≤ c ∧ c ≤ maxLen ∧ base ≤ g ∧ g < w.heap.size ∧ At w (some ⟨g, 0, none⟩) (n * size) (fun j => xs.getD j undef) := by
  obtain ⟨A, c, hv, hc, hat⟩ := own_at h
  have hcap := h
  rcases h.2 with ⟨h1, h2⟩ | ⟨g, cap, cur, h1, h2, -⟩
  · omega
  · subst h1
    obtain ⟨rfl, rfl⟩ : some ⟨g, 0, none⟩ = A ∧ cap = c := by simpa using hv
    exact ⟨g, cap, rfl, hc, own_cap hcap, h2, (hcap.lt g rfl).2, hat⟩
/-- Names, where they lie. -/
def rf.NAt (w : World) (A : Option Addr) (l : RNames) : Prop := At w A (l.length * 2) (fun j => (rf.nrow l).getD j undef)
theorem rf.NAt.at' {w : World} {A : Option Addr} {l : RNames} (h : rf.NAt w A l) {i : Nat} {x : ByteArray × Nat} (hx : l[i]? = some x) :
    ∃ b o, A = some ⟨b, o, none⟩ ∧ b < w.heap.size ∧ w.cell? ⟨b, o + i * 2, none⟩ = some (.string x.1) ∧ w.cell? ⟨b, o + i * 2 + 1, none⟩ = some (.int .i64 (x.2 : Int)) := by
  have hi := (List.getElem?_eq_some_iff.1 hx).1
  obtain ⟨r0, r1⟩ := rf.nrow_at hx
  obtain ⟨b, o, e, hb, hc⟩ := h (by omega)
  refine ⟨b, o, e, hb, ?_, ?_⟩
  · rw [hc (i * 2) (by omega)]; exact congrArg some r0
  · rw [Nat.add_assoc, hc (i * 2 + 1) (by omega)]; exact congrArg some r1
/-- The place of a name, or -1. -/
def rf.place (l : RNames) (s : ByteArray) : Int := match l.findIdx? (fun x => decide (x.1 = s)) with | some i => (i : Int) | Option.none => -1
theorem rf.place_look {l : RNames} {s : ByteArray} : (rd.look l s = none ∧ rf.place l s = -1) ∨ ∃ (i : Nat) (x : ByteArray × Nat), l[i]? = some x ∧ x.1 = s ∧ rd.look l s = some x.2 ∧ rf.place l s = (i : Int) := by
  unfold rf.place
  induction l with
  | nil => exact .inl ⟨rfl, rfl⟩
  | cons y l ih =>
    have hl : rd.look (y :: l) s = if y.1 = s then some y.2 else rd.look l s := rfl
    by_cases e : y.1 = s
    · refine .inr ⟨0, y, rfl, e, by rw [hl, if_pos e], ?_⟩
      rw [List.findIdx?_cons, decide_eq_true e]
      rfl
    · rw [hl, if_neg e, List.findIdx?_cons, decide_eq_false e]
      rcases ih with ⟨h1, h2⟩ | ⟨i, x, h1, h2, h3, h4⟩
      · refine .inl ⟨h1, ?_⟩
        cases hh : l.findIdx? (fun x => decide (x.1 = s)) with
        | none => rfl
        | some j => rw [hh] at h2; exact absurd h2 (by dsimp only; omega)
      · refine .inr ⟨i + 1, x, by simpa using h1, h2, h3, ?_⟩
        cases hh : l.findIdx? (fun x => decide (x.1 = s)) with
        | none => rw [hh] at h4; exact absurd h4 (by dsimp only; omega)
        | some j =>
          rw [hh] at h4
          have : j = i := by have : (j : Int) = (i : Int) := h4; omega
          subst this
          rfl
theorem rf.place_some {l : RNames} {s : ByteArray} {j : Nat} (h1 : ∃ x, l[j]? = some x ∧ x.1 = s) (h2 : ∀ (i : Nat) (x : ByteArray × Nat), l[i]? = some x → i < j → x.1 ≠ s) : rf.place l s = (j : Int) := by
  obtain ⟨x, hx, e⟩ := h1
  unfold rf.place
  have hfi : l.findIdx? (fun x => decide (x.1 = s)) = some j := by
    rw [List.findIdx?_eq_some_iff_getElem]
    refine ⟨(List.getElem?_eq_some_iff.1 hx).1, by rw [(List.getElem?_eq_some_iff.1 hx).2]; simpa using e, fun i hi => ?_⟩
    have hil : i < l.length := by have := (List.getElem?_eq_some_iff.1 hx).1; omega
    have := h2 i l[i] (List.getElem?_eq_getElem hil) hi
    simpa using this
  rw [hfi]
theorem rf.place_none {l : RNames} {s : ByteArray} (h2 : ∀ (i : Nat) (x : ByteArray × Nat), l[i]? = some x → x.1 ≠ s) : rf.place l s = -1 := by
  unfold rf.place
  have hfi : l.findIdx? (fun x => decide (x.1 = s)) = none := by
    rw [List.findIdx?_eq_none_iff]
    intro x hx
    obtain ⟨i, hi⟩ := List.getElem?_of_mem hx
    have := h2 i x hi
    simpa using this
  rw [hfi]

set_option maxHeartbeats 1000000 in
theorem rf.find_any (A : Option Addr) (c : Nat) (l : RNames) (s : ByteArray) (w : World) (h : rf.NAt w A l) (hl : l.length ≤ 1000000) :
    Calls Try.prog 45 #[.slice A l.length c, .string s] w fun e w' => e = .returned (.int .i64 (rf.place l s)) ∧ w' = w := by
  obtain ⟨n, hn⟩ : ∃ n, n = l.length := ⟨_, rfl⟩
  rw [← hn] at hl ⊢
  have HN := Lib.hid hn.symm; clear hn
  have HR := Lib.hid h; clear h
  have hpost : ∀ x : Int, x = rf.place l s → Ending.returned (.int .i64 x) = Ending.returned (.int .i64 (rf.place l s)) := fun x h => by rw [h]
  have HPOST := Lib.hid hpost; clear hpost
  go_enter Try.func45, Try.ntmps45
  go_wp2_with fail
  go_loopw [5] (fun i wr => ∃ j : Nat, j ≤ n ∧ i = .int .i64 (j : Int) ∧ (∀ (i : Nat) (x : ByteArray × Nat), l[i]? = some x → i < j → x.1 ≠ s) ∧ wr = w) (fun i _ => n - (intOf i).toNat)
  case atStart => exact ⟨0, by omega, rfl, fun _ _ _ h => by omega, rfl⟩
  case round =>
    obtain ⟨j, hj, rfl, hno, rfl⟩ := hrel
    have HNO := Lib.hid hno; clear hno
    by_cases hlt : j < n
    · have hlt' : (j : Int) < (n : Int) := by omega
      obtain ⟨x, hx⟩ : ∃ x, l[j]? = some x := ⟨_, List.getElem?_eq_getElem (by have := HN.out; omega)⟩
      obtain ⟨b, o, rfl, hb, d0, -⟩ := HR.out.at' hx
      have HX := Lib.hid hx; clear hx
      obtain ⟨nm, f⟩ := x
      dsimp only at d0
      by_cases hid : nm = s
      · have hf : (j : Int) = rf.place l s := (rf.place_some ⟨_, HX.out, hid⟩ HNO.out).symm
        have hd : (nm.toList == s.toList) = true := by rw [hid]; simp
        have HF := Lib.hid hf; clear hf hid
        go_wp2_with fail
        (try rw [Exit.noGoto_ret])
        go_ret
        exact ⟨HPOST.out _ HF.out, rfl⟩
      · have hd : (nm.toList == s.toList) = false := dk.str_ne hid
        have HID := Lib.hid hid; clear hid
        go_wp2_with fail
        go_roundw
        case rel =>
          refine ⟨j + 1, by omega, by go_num, fun i x hx hi => ?_, trivial⟩
          rcases Nat.lt_or_ge i j with h' | h'
          · exact HNO.out i x hx h'
          · obtain rfl : i = j := by omega
            rw [HX.out] at hx
            cases hx
            exact HID.out
        case measure => simp [intOf]; omega
    · have hf : (-1 : Int) = rf.place l s := (rf.place_none fun i x hx => HNO.out i x hx (by have := (List.getElem?_eq_some_iff.1 hx).1; have := HN.out; omega)).symm
      have HF := Lib.hid hf; clear hf
      go_wp2_with fail
      go_ret
      exact ⟨HPOST.out _ HF.out, rfl⟩
theorem rf.without_snoc (l : RNames) (x : ByteArray × Nat) (s : ByteArray) : rd.without (l ++ [x]) s = if x.1 = s then rd.without l s else rd.without l s ++ [x] := by
  unfold rd.without
  rw [List.filter_append]
  by_cases e : x.1 = s
  · rw [if_pos e, List.filter_cons_of_neg (by simp [e])]; simp
  · rw [if_neg e, List.filter_cons_of_pos (by simp [e])]; rfl
set_option maxHeartbeats 2000000 in
theorem rf.without_any (A : Option Addr) (c : Nat) (l : RNames) (s : ByteArray) (w : World) (h : rf.NAt w A l) (hl : l.length ≤ 1000000) :
    Calls Try.prog 65 #[.slice A l.length c, .string s] w fun e w' => ∃ v, e = .returned v ∧ w'.ownsRow w.heap.size 78 2 v (rd.without l s).length (rf.nrow (rd.without l s)) ∧ Below w.heap.size w w' := by
  obtain ⟨n, hn⟩ : ∃ n, n = l.length := ⟨_, rfl⟩
  rw [← hn] at hl ⊢
  have HN := Lib.hid hn.symm; clear hn
  have HR := Lib.hid h; clear h
  obtain ⟨i0, hi, hz0, hz1, hz2⟩ := info_parts rf.infoName
  have HI := Lib.hid (And.intro hi (And.intro hz0 (And.intro hz1 hz2))); clear hi hz0 hz1 hz2
  go_enter Try.func65, Try.ntmps65
  go_wp2_with fail
  go_loopw [5, 6] (fun v i wr => ∃ j : Nat, j ≤ n ∧ i = .int .i64 (j : Int) ∧ wr.ownsRow w.heap.size 78 2 v (rd.without (l.take j) s).length (rf.nrow (rd.without (l.take j) s)) ∧ Below w.heap.size w wr) (fun _ i _ => n - (intOf i).toNat)
  case atStart => exact ⟨0, by omega, rfl, World.ownsRow_nil _ _ _ _, Below.refl _ _⟩
  case round =>
    obtain ⟨j, hj, rfl, hown, hb⟩ := hrel
    obtain ⟨m, hm⟩ : ∃ m, m = (rd.without (l.take j) s).length := ⟨_, rfl⟩
    rw [← hm] at hown
    have hmn : m ≤ j := by rw [hm]; have := rd.without_len (l.take j) s; rw [List.length_take] at this; omega
    have HM := Lib.hid hm; clear hm
    obtain ⟨A5, c5, rfl, -⟩ := own_at hown
    have HO := Lib.hid (And.intro hown hb); clear hown hb
    by_cases hlt : j < n
    · have hlt' : (j : Int) < (n : Int) := by omega
      obtain ⟨x, hx⟩ : ∃ x, l[j]? = some x := ⟨_, List.getElem?_eq_getElem (by have := HN.out; omega)⟩
      have htk : l.take (j + 1) = l.take j ++ [x] := by
        obtain ⟨h1, h2⟩ := List.getElem?_eq_some_iff.1 hx
        rw [List.take_succ_eq_append_getElem h1, h2]
      have hwo := rf.without_snoc (l.take j) x s
      rw [← htk] at hwo
      obtain ⟨b, o, rfl, hbl, e0, e1⟩ := HR.out.at' hx
      have d0 := (HO.out.2.cell (p := ⟨b, o + j * 2, none⟩) (by exact hbl)).trans e0
      have d1 := (HO.out.2.cell (p := ⟨b, o + j * 2 + 1, none⟩) (by exact hbl)).trans e1
      have hbl2 : b < wr.heap.size := by have := HO.out.2.size; omega
      clear e0 e1 hx htk
      obtain ⟨nm, f⟩ := x
      dsimp only at d0 d1 hwo
      by_cases hid : nm = s
      · have hd : (nm.toList == s.toList) = true := by rw [hid]; simp
        rw [if_pos hid] at hwo
        have HW := Lib.hid hwo; clear hwo hid
        go_wp2_with fail
        go_roundw
        case rel => exact ⟨j + 1, by omega, by go_num, by rw [HW.out, ← HM.out]; exact HO.out.1, HO.out.2⟩
        case measure => simp [intOf]; omega
      · have hd : (nm.toList == s.toList) = false := dk.str_ne hid
        rw [if_neg hid] at hwo
        have HW := Lib.hid hwo; clear hwo hid
        have hcel := cells_new wr [.string nm, .int .i64 (f : Int)] 78 wr.heap.size rfl
        have HCEL := Lib.hid hcel; clear hcel
        go_wp2_with (at_builtin; go_loud (refine wpList_append_own_at _ rfl (.tmp 20) (.tmp 25) 48 rfl w.heap.size 78 i0 _ 2 24 Try.underlying48 HI.out.1 HI.out.2.1 HI.out.2.2.1 HI.out.2.2.2 rfl (by decide) (.slice A5 m c5) m (rf.nrow (rd.without (l.take j) s)) rfl (HO.out.1.alloc _) ⟨wr.heap.size, 0, none⟩ 1 1 [.string nm, .int .i64 (f : Int)] rfl rfl HCEL.out (by simp [Value.oneCell']) (by unfold maxLen; omega) (by omega) (by have := HO.out.2.size; simp; omega) ?_; intro v4 w4 h1 h2 _ h3; have HN4 := Lib.hid (And.intro h1 (And.intro h2 h3)); clear h1 h2 h3))
        go_roundw
        case rel =>
          refine ⟨j + 1, by omega, by go_num, ?_, (HO.out.2.alloc HO.out.2.size _).grown HN4.out.2.1 (by have := HO.out.2.size; simp; omega) fun g hg => (HO.out.1.lt g hg).1⟩
          have h1 := HN4.out.1
          rw [HW.out, rf.nrow_append, List.length_append, ← HM.out]
          exact h1
        case measure => simp [intOf]; omega
    · obtain rfl : j = n := by omega
      have hown := HO.out.1
      rw [List.take_of_length_le (by rw [HN.out]; exact Nat.le_refl _)] at hown
      have hmm := HM.out
      rw [List.take_of_length_le (by rw [HN.out]; exact Nat.le_refl _)] at hmm
      have HF := Lib.hid (show wr.ownsRow w.heap.size 78 2 (.slice A5 m c5) (rd.without l s).length (rf.nrow (rd.without l s)) from by rw [← hmm]; exact hown); clear hown hmm
      go_wp2_with fail
      go_ret
      exact ⟨_, rfl, HF.out, HO.out.2⟩
end
section
open Go.RowKit Go.Maps
set_option maxRecDepth 100000

theorem rf.nrow_all {l : RNames} {n : Nat} (h : l.length = n) : cellsOf (n * 2) (fun j => (rf.nrow l).getD j undef) = rf.nrow l := by
  have := cellsOf_list (rf.nrow l)
  rw [rf.nrow_len, h] at this
  exact this
theorem rf.nrow_one' {l : RNames} {n : Nat} (hn : l.length = n) : ∀ j, j < n * 2 → ((rf.nrow l).getD j undef).oneCell' = true := by
  intro j hj
  obtain ⟨x, hx⟩ : ∃ x, l[j / 2]? = some x := ⟨_, List.getElem?_eq_getElem (by omega)⟩
  obtain ⟨r0, r1⟩ := rf.nrow_at hx
  rcases Nat.mod_two_eq_zero_or_one j with h | h
  · rw [show j = j / 2 * 2 by omega, r0]; rfl
  · rw [show j = j / 2 * 2 + 1 by omega, r1]; rfl
theorem rf.at_one {w : World} {g : Nat} {T : TypeId} {a b : Value} (h : Blk w g T #[a, b]) : At w (some ⟨g, 0, none⟩) (1 * 2) (fun j => ([a, b] : List Value).getD j undef) := fun _ =>
  ⟨g, 0, rfl, h.lt, fun j hj => by
    rw [Nat.zero_add]
    match j, hj with
    | 0, _ => exact h.cell 0 rfl
    | 1, _ => exact h.cell 1 rfl⟩
theorem rf.one_one (s : ByteArray) (f : Nat) : ∀ j, j < 1 * 2 → (([.string s, .int .i64 (f : Int)] : List Value).getD j undef).oneCell' = true := fun j hj => match j, hj with
  | 0, _ => rfl
  | 1, _ => rfl
theorem rf.one_cells (s : ByteArray) (f : Nat) : cellsOf (1 * 2) (fun j => ([.string s, .int .i64 (f : Int)] : List Value).getD j undef) = rf.nrow [(s, f)] := rfl
theorem bl.asymm {s t : ByteArray} (h : bl.lt s t = true) : bl.lt t s = false := by
  cases e : bl.lt t s with
  | false => rfl
  | true => have := bl.trans h e; rw [bl.irrefl] at this; cases this
/-- Where a name comes in. -/
theorem rd.ins_at : ∀ (l : RNames) (s : ByteArray) (f k : Nat), (∀ x ∈ l.take k, bl.lt x.1 s = true) → (∀ x ∈ l.drop k, bl.lt x.1 s = false) → rd.ins l s f = l.take k ++ (s, f) :: l.drop k
  | [], s, f, k, _, _ => by simp [rd.ins]
  | x :: l, s, f, 0, _, h2 => by
    have hx := h2 x (by simp)
    unfold rd.ins
    rw [if_neg (by rw [hx]; simp)]
    rfl
  | x :: l, s, f, k + 1, h1, h2 => by
    have hx := h1 x (by simp)
    unfold rd.ins
    rw [if_pos hx, rd.ins_at l s f k (fun y hy => h1 y (by rw [List.take_succ_cons]; exact List.mem_cons_of_mem _ hy)) (fun y hy => h2 y (by simpa using hy))]
    rfl
set_option maxHeartbeats 8000000 in
theorem rf.with_any (A : Option Addr) (c : Nat) (l0 : RNames) (s : ByteArray) (f : Nat) (w : World) (h : rf.NAt w A l0) (hl : l0.length ≤ 1000000) (hr : rd.Rises l0) :
    Calls Try.prog 64 #[.slice A l0.length c, .string s, .int .i64 (f : Int)] w fun e w' => ∃ v, e = .returned v ∧ w'.ownsRow w.heap.size 78 2 v (rd.with l0 s f).length (rf.nrow (rd.with l0 s f)) ∧ Below w.heap.size w w' := by
  have hwo := rf.without_any A c l0 s w h hl
  have HWO := Lib.hid hwo; clear hwo h
  have hl1 : (rd.without l0 s).length ≤ 1000000 := by have := rd.without_len l0 s; omega
  have hrise := rd.rises_without hr s
  have hnm : ∀ x ∈ rd.without l0 s, x.1 ≠ s := fun x hx => (rd.mem_without.1 hx).2
  have hwith : rd.with l0 s f = rd.ins (rd.without l0 s) s f := rfl
  rw [hwith]
  obtain ⟨n0, hn0⟩ : ∃ n0, n0 = l0.length := ⟨_, rfl⟩
  rw [← hn0] at HWO ⊢
  clear hl hr hwith hn0
  generalize rd.without l0 s = l at *
  obtain ⟨n, hn⟩ : ∃ n, n = l.length := ⟨_, rfl⟩
  rw [← hn] at HWO hl1
  have HN := Lib.hid hn.symm; clear hn
  have HRI := Lib.hid (And.intro hrise hnm); clear hrise hnm
  obtain ⟨i0, hi, hz0, hz1, hz2⟩ := info_parts rf.infoName
  have HI := Lib.hid (And.intro hi (And.intro hz0 (And.intro hz1 hz2))); clear hi hz0 hz1 hz2
  go_enter Try.func64, Try.ntmps64
  go_upto_region 2 with (go_at_call 65; refine HWO.out.mono ?_; rintro e w1 ⟨v, rfl, h1, h2⟩; obtain ⟨A1, c1, hv1, hc1, hat1⟩ := own_at h1; have hcm1 : c1 ≤ maxLen := own_cap (hv1 ▸ h1); subst hv1; unfold maxLen at hcm1; have H1 := Lib.hid (And.intro h1 (And.intro h2 hat1)); clear h1 h2 hat1)
  go_upto_block 0 with fail
  go_cut [7] from 13 to 26 (fun s7 wx => ∃ k : Nat, k ≤ n ∧ s7 = .int .i64 (k : Int) ∧ (∀ x ∈ l.take k, bl.lt x.1 s = true) ∧ (∀ x ∈ l.drop k, bl.lt x.1 s = false) ∧ wx = w1)
  case first =>
    go_wp2_with fail
    go_loopw [7] (fun i wr => ∃ k : Nat, k ≤ n ∧ i = .int .i64 (k : Int) ∧ (∀ (i : Nat) (x : ByteArray × Nat), l[i]? = some x → k ≤ i → bl.lt s x.1 = true) ∧ wr = w1) (fun i _ => (intOf i).toNat)
    case atStart => exact ⟨n, by omega, rfl, fun i x hx hi => absurd (List.getElem?_eq_some_iff.1 hx).1 (by have := HN.out; omega), rfl⟩
    case round =>
      obtain ⟨k, hk, rfl, hno, rfl⟩ := hrel
      have hdrop : ∀ x ∈ l.drop k, bl.lt x.1 s = false := fun x hx => by
        obtain ⟨i, hi⟩ := List.getElem?_of_mem hx
        rw [List.getElem?_drop] at hi
        exact bl.asymm (hno _ x hi (by omega))
      have HNO := Lib.hid (And.intro hno hdrop); clear hno hdrop
      have hstop : k = 0 ∨ ∃ K x, k = K + 1 ∧ l[K]? = some x := by
        cases k with
        | zero => exact .inl rfl
        | succ K => exact .inr ⟨K, _, rfl, List.getElem?_eq_getElem (by have := HN.out; omega)⟩
      rcases hstop with rfl | ⟨K, x, rfl, hx⟩
      · go_wp2_with fail
        go_meet
        case rel => exact ⟨0, by omega, rfl, fun x hx => by simp at hx, HNO.out.2, rfl⟩
      · obtain ⟨b, o, rfl, hb, d0, -⟩ := rf.NAt.at' (l := l) (A := A1) (w := wr) (by rw [rf.NAt, HN.out]; exact H1.out.2.2) hx
        have hk1 : ((K + 1 : Nat) : Int) - 1 = (K : Int) := by omega
        have hKn : (K : Int) < (n : Int) := by omega
        have hpos : 0 < ((K + 1 : Nat) : Int) := by omega
        have HX := Lib.hid hx; clear hx
        obtain ⟨nm, ff⟩ := x
        dsimp only at d0
        cases hlt : bl.lt s nm with
        | true =>
          have hless : Op.bytesLess nm.toList s.toList = false := bl.asymm hlt
          have hne : (nm.toList == s.toList) = false := dk.str_ne (fun e => bl.ne hlt e.symm)
          have hrun : (binOp .gtr 9 (.string nm) (.string s)).run Try.prog wr = .ok (.bool true) wr := by
            show (Op.stringOp .gtr nm s).run Try.prog wr = _
            unfold Op.stringOp
            rw [hless, hne]
            rfl
          clear hless hne
          have HLT := Lib.hid hlt; clear hlt
          go_wp2_with fail
          go_roundw
          case rel =>
            refine ⟨K, by omega, by go_num, fun i x hx hi => ?_, trivial⟩
            rcases Nat.lt_or_ge K i with h' | h'
            · exact HNO.out.1 i x hx h'
            · obtain rfl : i = K := by omega
              rw [HX.out] at hx
              cases hx
              exact HLT.out
          case measure => simp [intOf]
        | false =>
          have hlt2 := bl.flip hlt (fun e => HRI.out.2 _ (List.mem_of_getElem? HX.out) e.symm)
          have hless : Op.bytesLess nm.toList s.toList = true := hlt2
          have hrun : (binOp .gtr 9 (.string nm) (.string s)).run Try.prog wr = .ok (.bool false) wr := by
            show (Op.stringOp .gtr nm s).run Try.prog wr = _
            unfold Op.stringOp
            rw [hless]
            rfl
          clear hless
          have HLT := Lib.hid hlt2; clear hlt hlt2
          go_wp2_with fail
          go_meet
          case rel =>
            refine ⟨K + 1, by omega, rfl, fun x hx => ?_, HNO.out.2, rfl⟩
            obtain ⟨h1, h2⟩ := List.getElem?_eq_some_iff.1 HX.out
            rw [List.take_succ_eq_append_getElem h1, h2] at hx
            rcases List.mem_append.1 hx with hx | hx
            · obtain ⟨i, hi⟩ := List.getElem?_of_mem hx
              have hiK : i < K := by
                have := (List.getElem?_eq_some_iff.1 hi).1
                rw [List.length_take] at this
                omega
              rw [List.getElem?_take_of_lt hiK] at hi
              obtain ⟨g1, g2⟩ := List.getElem?_eq_some_iff.1 hi
              have := (List.pairwise_iff_getElem.1 HRI.out.1) i K g1 h1 hiK
              rw [g2, h2] at this
              exact bl.trans this HLT.out
            · rw [List.mem_singleton.1 hx]
              exact HLT.out
  case rest =>
    obtain ⟨k, hk, rfl, hk1, hk2, rfl⟩ := hcut
    go_upto_region 5 with fail
    have hS0 : later wc (fun _ => False) wc.drew := later_of ((Chg.refl _ _).drew)
    refine wp_plan (S := fun w0 => ∃ x : Later wc (fun _ => False), w0 = x.1) (by kernel_rfl) hS0 ?_
    intro hS' K5 hK5
    have HS := Lib.hid hS'; clear hS' hS0
    have HK := Lib.hid (show (l.take k).length = k from by rw [List.length_take, HN.out]; omega)
    have HD := Lib.hid (show (l.drop k).length = n - k from by rw [List.length_drop, HN.out])
    have hkc : k ≤ c1 := by omega
    have hat3 : At wc A1 (k * 2) (fun j => (rf.nrow (l.take k)).getD j undef) := (H1.out.2.2.le (by omega)).congr fun j hj => by
      have e : rf.nrow l = rf.nrow (l.take k) ++ rf.nrow (l.drop k) := by rw [← rf.nrow_append, List.take_append_drop]
      rw [e, List.getD_eq_getElem?_getD, List.getElem?_append_left (by rw [rf.nrow_len, HK.out]; exact hj), List.getD_eq_getElem?_getD]
    obtain ⟨A4, hA4⟩ : ∃ A4, A4 = if c1 = k then A1 else Option.map (fun x => x.add (k * 2)) A1 := ⟨_, rfl⟩
    have hat4 : At wc A4 ((n - k) * 2) (fun j => (rf.nrow (l.drop k)).getD j undef) := fun h0 => by
      obtain ⟨b, o, e, hb, hcell⟩ := H1.out.2.2 (by omega)
      refine ⟨b, o + k * 2, ?_, hb, fun j hj => ?_⟩
      · rw [hA4, if_neg (by omega), e]
        show some ((⟨b, o, none⟩ : Addr).add (k * 2)) = _
        rw [add_none]
      · rw [Nat.add_assoc, hcell (k * 2 + j) (by omega)]
        have e : rf.nrow l = rf.nrow (l.take k) ++ rf.nrow (l.drop k) := by rw [← rf.nrow_append, List.take_append_drop]
        have hlk : (rf.nrow (l.take k)).length = k * 2 := by rw [rf.nrow_len, HK.out]
        dsimp only
        rw [e, List.getD_eq_getElem?_getD, List.getElem?_append_right (by omega), hlk, List.getD_eq_getElem?_getD, show k * 2 + j - k * 2 = j from by omega]
    have HAT3 := Lib.hid (fun wx (hx : Below wc.heap.size wc wx) => hat3.below hx (Nat.le_refl _)); clear hat3
    have HAT4 := Lib.hid (fun wx (hx : Below wc.heap.size wc wx) => hat4.below hx (Nat.le_refl _)); clear hat4
    have hins := rd.ins_at l s f k hk1 hk2
    have hfin : ∀ (wx : World) (v : Value), wx.ownsRow wc.heap.size 78 2 v (k + 1 + (n - k)) (rf.nrow (l.take k) ++ cellsOf (1 * 2) (fun j => ([.string s, .int .i64 (f : Int)] : List Value).getD j undef) ++ rf.nrow (l.drop k)) → Below wc.heap.size wc wx → wx.ownsRow w.heap.size 78 2 v (rd.ins l s f).length (rf.nrow (rd.ins l s f)) ∧ Below w.heap.size w wx := fun wx v h1 h2 => by
      refine ⟨ownsRow_base (b := wc.heap.size) ?_ H1.out.2.1.size, H1.out.2.1.trans (h2.mono H1.out.2.1.size)⟩
      rw [rd.ins_len, HN.out, hins]
      rw [rf.one_cells, ← rf.nrow_append, ← rf.nrow_append, List.append_assoc] at h1
      rw [show n + 1 = k + 1 + (n - k) from by omega]
      exact h1
    have HFIN := Lib.hid hfin; clear hfin hins hk1 hk2
    have HBw2 := Lib.hid (bdrew (Below.refl wc.heap.size wc) 1)
    refine plan_group [false, true, true, true, false, true, true, true, false, false, true, true, true] [1, 2, 3, 5, 6, 7, 10, 11, 12] 6 (by dsimp only [sel]) (by rfl) rfl (by kernel_rfl) (by kernel_rfl) HS.out ?_
    (repeat go_big_quiet_step (fail)); refine wpQuiet_nil ?_
    rw [← hA4]
    clear hA4
    refine plan_two [true] [false, false, false, false, false, false, false, false, true] 0 8 5 (by dsimp only [sel]) (by dsimp only [sel]) (by rfl) (by rfl) rfl (by kernel_rfl) ?_ ?_ <;> intro K1 hK1
    · obtain ⟨w2, hw2⟩ : ∃ x, x = wc.drew := ⟨_, rfl⟩
      replace HBw2 : Hid (Below wc.heap.size wc w2) := hw2 ▸ HBw2
      rw [← hw2]
      clear hw2
      go_wp2_with fail
      obtain ⟨w3, hw3⟩ : ∃ x, x = w2.alloc (.cells #[] 78) := ⟨_, rfl⟩
      rw [← hw3]
      obtain ⟨g13, hg13⟩ : ∃ g, g = w2.heap.size := ⟨_, rfl⟩
      have ho13 : w3.ownsRow wc.heap.size 78 2 (.slice (some ⟨g13, 0, none⟩) 0 0) 0 [] := by rw [hw3, hg13]; exact World.ownsRow_made w2 #[] 0 (by have := HBw2.out.size; omega) (by unfold maxLen; omega) (by simp)
      have HBw3 := Lib.hid (show Below wc.heap.size wc w3 from by rw [hw3]; exact HBw2.out.alloc HBw2.out.size _)
      have HBLw3 := Lib.hid (show Below w2.heap.size w2 w3 from by rw [hw3]; exact (Below.refl _ _).alloc (Nat.le_refl _) _)
      rw [← hg13]
      have HO13 := Lib.hid ho13; clear ho13 hw3 hg13
      refine ⟨later_of (chg_of HBw3.out), ?_⟩
      refine plan_two [false, false, false, false, true] [false, false, false, false, false, false, false, false, true] 4 8 4 (by dsimp only [sel]) (by dsimp only [sel]) (by rfl) (by rfl) rfl (by kernel_rfl) ?_ ?_ <;> intro K1 hK1
      · refine wpList_app2 _ rfl (.tmp 27) (.tmp 30) 48 rfl wc.heap.size 78 i0 _ 2 24 Try.underlying48 HI.out.1 HI.out.2.1 HI.out.2.2.1 HI.out.2.2.2 rfl (by decide) _ 0 [] rfl (HO13.out) A1 k c1 (fun j => (rf.nrow (l.take k)).getD j undef) rfl (HAT3.out _ HBw3.out) (rf.nrow_one' HK.out) (by unfold maxLen; omega) (by omega) (by have := HBw3.out.size; omega) ?_
        intro v18 w4 hown hg hl
        rw [List.nil_append, rf.nrow_all HK.out, Nat.zero_add] at hown
        have HO18 := Lib.hid hown; clear hown
        have hrow13 : ∀ k, (Value.slice (some ⟨g13, 0, none⟩) 0 0).ownBlock = some k → wc.heap.size ≤ k := fun k hk => (HO13.out.lt k hk).1
        have HBw4 := Lib.hid (HBw3.out.grown hg HBw3.out.size hrow13)
        have hg18 : Chg w3 w4 (fun k => k = g13) := (Chg.grown hg).mono fun k _ hk => by
          have hk2 : (Value.slice (some ⟨g13, 0, none⟩) 0 0).ownBlock = some k := hk
          have : g13 = k := by simpa [Value.ownBlock] using hk2
          exact this.symm
        have HG18 := Lib.hid hg18; clear hg hl hrow13 hg18
        go_wp2_with fail
        refine ⟨later_of (chg_of HBw4.out), ?_⟩
        refine plan_one [false, false, false, false, false, false, false, false, true] 8 3 (by dsimp only [sel]) (by rfl) rfl (by kernel_rfl) ?_; intro K1 hK1
        go_wp2_with fail
        obtain ⟨w5, hw5⟩ : ∃ x, x = w4.alloc (.cells #[.string s, .int .i64 (f : Int)] 78) := ⟨_, rfl⟩
        rw [← hw5]
        obtain ⟨g25, hg25⟩ : ∃ g, g = w4.heap.size := ⟨_, rfl⟩
        have hb25 : Blk w5 g25 78 #[.string s, .int .i64 (f : Int)] := by rw [hw5, hg25]; exact Blk.new _ _ _
        have HBw5 := Lib.hid (show Below wc.heap.size wc w5 from by rw [hw5]; exact HBw4.out.alloc HBw4.out.size _)
        have HBLw5 := Lib.hid (show Below w4.heap.size w4 w5 from by rw [hw5]; exact (Below.refl _ _).alloc (Nat.le_refl _) _)
        rw [← hg25]
        have HP25 := Lib.hid hb25; clear hb25 hw5 hg25
        refine ⟨later_of (chg_of HBw5.out), ?_⟩
        refine plan_one [false, false, false, false, false, false, false, false, false, true] 9 2 (by dsimp only [sel]) (by rfl) rfl (by kernel_rfl) ?_; intro K1 hK1
        refine wpList_app2 _ rfl (.tmp 31) (.tmp 35) 48 rfl wc.heap.size 78 i0 _ 2 24 Try.underlying48 HI.out.1 HI.out.2.1 HI.out.2.2.1 HI.out.2.2.2 rfl (by decide) _ k (rf.nrow (l.take k)) rfl (own_below HO18.out HBLw5.out) (some ⟨g25, 0, none⟩) 1 1 (fun j => ([.string s, .int .i64 (f : Int)] : List Value).getD j undef) rfl (rf.at_one (HP25.out)) (rf.one_one s f) (by unfold maxLen; omega) (by omega) (by have := HBw5.out.size; omega) ?_
        intro v26 w9 hown hg hl
        have HO26 := Lib.hid hown; clear hown
        have HB9 := Lib.hid (HBw5.out.grown hg HBw5.out.size fun k hk => ((own_below HO18.out HBLw5.out).lt k hk).1); clear hg hl
        go_wp2_with fail
        refine ⟨later_of (chg_of HB9.out), ?_⟩
        refine plan_one [false, false, false, false, false, false, false, false, false, false, false, false, false, true] 13 1 (by dsimp only [sel]) (by rfl) rfl (by kernel_rfl) ?_; intro K1 hK1
        refine wpList_app2 _ rfl (.tmp 36) (.tmp 39) 48 rfl wc.heap.size 78 i0 _ 2 24 Try.underlying48 HI.out.1 HI.out.2.1 HI.out.2.2.1 HI.out.2.2.2 rfl (by decide) _ (k + 1) _ rfl HO26.out A4 (n - k) (c1 - k) (fun j => (rf.nrow (l.drop k)).getD j undef) rfl (HAT4.out _ HB9.out) (rf.nrow_one' HD.out) (by unfold maxLen; omega) (by omega) (by have := HB9.out.size; omega) ?_
        intro v27 w10 hown hg hl
        rw [rf.nrow_all HD.out] at hown
        have HO27 := Lib.hid hown; clear hown
        have HB10 := Lib.hid (HB9.out.grown hg HB9.out.size fun k hk => (HO26.out.lt k hk).1); clear hg hl
        go_wp2_with fail
        refine ⟨later_of (chg_of HB10.out), ?_⟩
        obtain ⟨A9, c9, hv9, -⟩ := own_at HO27.out
        have HP := Lib.hid (HFIN.out w10 v27 HO27.out HB10.out)
        subst hv9
        go_simp
        refine plan_one [false, false, false, false, false, false, false, false, false, false, false, false, false, false, true] 14 0 (by dsimp only [sel]) (by rfl) rfl (by kernel_rfl) ?_; intro K1 hK1; go_wp2_with fail
        refine ⟨later_of (chg_of HB10.out), ?_⟩
        refine wp_plan_end (by kernel_rfl) ?_
        go_wp2_with fail
        go_ret
        exact ⟨_, rfl, HP.out⟩
      · go_wp2_with fail
        obtain ⟨w4, hw4⟩ : ∃ x, x = w3.alloc (.cells #[.string s, .int .i64 (f : Int)] 78) := ⟨_, rfl⟩
        rw [← hw4]
        obtain ⟨g25, hg25⟩ : ∃ g, g = w3.heap.size := ⟨_, rfl⟩
        have hb25 : Blk w4 g25 78 #[.string s, .int .i64 (f : Int)] := by rw [hw4, hg25]; exact Blk.new _ _ _
        have HBw4 := Lib.hid (show Below wc.heap.size wc w4 from by rw [hw4]; exact HBw3.out.alloc HBw3.out.size _)
        have HBLw4 := Lib.hid (show Below w3.heap.size w3 w4 from by rw [hw4]; exact (Below.refl _ _).alloc (Nat.le_refl _) _)
        have hne : g13 ≠ g25 := by have := (HO13.out.lt g13 rfl).2; omega
        rw [← hg25]
        have HP25 := Lib.hid hb25; clear hb25 hw4 hg25
        refine ⟨later_of (chg_of HBw4.out), ?_⟩
        refine plan_one [false, false, false, false, true] 4 3 (by dsimp only [sel]) (by rfl) rfl (by kernel_rfl) ?_; intro K1 hK1
        refine wpList_app2 _ rfl (.tmp 27) (.tmp 30) 48 rfl wc.heap.size 78 i0 _ 2 24 Try.underlying48 HI.out.1 HI.out.2.1 HI.out.2.2.1 HI.out.2.2.2 rfl (by decide) _ 0 [] rfl (own_below HO13.out HBLw4.out) A1 k c1 (fun j => (rf.nrow (l.take k)).getD j undef) rfl (HAT3.out _ HBw4.out) (rf.nrow_one' HK.out) (by unfold maxLen; omega) (by omega) (by have := HBw4.out.size; omega) ?_
        intro v18 w5 hown hg hl
        rw [List.nil_append, rf.nrow_all HK.out, Nat.zero_add] at hown
        have HO18 := Lib.hid hown; clear hown
        have hrow13 : ∀ k, (Value.slice (some ⟨g13, 0, none⟩) 0 0).ownBlock = some k → wc.heap.size ≤ k := fun k hk => (HO13.out.lt k hk).1
        have HBw5 := Lib.hid (HBw4.out.grown hg HBw4.out.size hrow13)
        have hg18 : Chg w4 w5 (fun k => k = g13) := (Chg.grown hg).mono fun k _ hk => by
          have hk2 : (Value.slice (some ⟨g13, 0, none⟩) 0 0).ownBlock = some k := hk
          have : g13 = k := by simpa [Value.ownBlock] using hk2
          exact this.symm
        have HG18 := Lib.hid hg18; clear hg hl hrow13 hg18
        go_wp2_with fail
        refine ⟨later_of (chg_of HBw5.out), ?_⟩
        refine plan_one [false, false, false, false, false, false, false, false, false, true] 9 2 (by dsimp only [sel]) (by rfl) rfl (by kernel_rfl) ?_; intro K1 hK1
        refine wpList_app2 _ rfl (.tmp 31) (.tmp 35) 48 rfl wc.heap.size 78 i0 _ 2 24 Try.underlying48 HI.out.1 HI.out.2.1 HI.out.2.2.1 HI.out.2.2.2 rfl (by decide) _ k (rf.nrow (l.take k)) rfl (HO18.out) (some ⟨g25, 0, none⟩) 1 1 (fun j => ([.string s, .int .i64 (f : Int)] : List Value).getD j undef) rfl (rf.at_one (HG18.out.blk HP25.out (fun h => hne h.symm))) (rf.one_one s f) (by unfold maxLen; omega) (by omega) (by have := HBw5.out.size; omega) ?_
        intro v26 w9 hown hg hl
        have HO26 := Lib.hid hown; clear hown
        have HB9 := Lib.hid (HBw5.out.grown hg HBw5.out.size fun k hk => ((HO18.out).lt k hk).1); clear hg hl
        go_wp2_with fail
        refine ⟨later_of (chg_of HB9.out), ?_⟩
        refine plan_one [false, false, false, false, false, false, false, false, false, false, false, false, false, true] 13 1 (by dsimp only [sel]) (by rfl) rfl (by kernel_rfl) ?_; intro K1 hK1
        refine wpList_app2 _ rfl (.tmp 36) (.tmp 39) 48 rfl wc.heap.size 78 i0 _ 2 24 Try.underlying48 HI.out.1 HI.out.2.1 HI.out.2.2.1 HI.out.2.2.2 rfl (by decide) _ (k + 1) _ rfl HO26.out A4 (n - k) (c1 - k) (fun j => (rf.nrow (l.drop k)).getD j undef) rfl (HAT4.out _ HB9.out) (rf.nrow_one' HD.out) (by unfold maxLen; omega) (by omega) (by have := HB9.out.size; omega) ?_
        intro v27 w10 hown hg hl
        rw [rf.nrow_all HD.out] at hown
        have HO27 := Lib.hid hown; clear hown
        have HB10 := Lib.hid (HB9.out.grown hg HB9.out.size fun k hk => (HO26.out.lt k hk).1); clear hg hl
        go_wp2_with fail
        refine ⟨later_of (chg_of HB10.out), ?_⟩
        obtain ⟨A9, c9, hv9, -⟩ := own_at HO27.out
        have HP := Lib.hid (HFIN.out w10 v27 HO27.out HB10.out)
        subst hv9
        go_simp
        refine plan_one [false, false, false, false, false, false, false, false, false, false, false, false, false, false, true] 14 0 (by dsimp only [sel]) (by rfl) rfl (by kernel_rfl) ?_; intro K1 hK1; go_wp2_with fail
        refine ⟨later_of (chg_of HB10.out), ?_⟩
        refine wp_plan_end (by kernel_rfl) ?_
        go_wp2_with fail
        go_ret
        exact ⟨_, rfl, HP.out⟩
    · obtain ⟨w2, hw2⟩ : ∃ x, x = wc.drew := ⟨_, rfl⟩
      replace HBw2 : Hid (Below wc.heap.size wc w2) := hw2 ▸ HBw2
      rw [← hw2]
      clear hw2
      go_wp2_with fail
      obtain ⟨w3, hw3⟩ : ∃ x, x = w2.alloc (.cells #[.string s, .int .i64 (f : Int)] 78) := ⟨_, rfl⟩
      rw [← hw3]
      obtain ⟨g25, hg25⟩ : ∃ g, g = w2.heap.size := ⟨_, rfl⟩
      have hb25 : Blk w3 g25 78 #[.string s, .int .i64 (f : Int)] := by rw [hw3, hg25]; exact Blk.new _ _ _
      have HBw3 := Lib.hid (show Below wc.heap.size wc w3 from by rw [hw3]; exact HBw2.out.alloc HBw2.out.size _)
      have HBLw3 := Lib.hid (show Below w2.heap.size w2 w3 from by rw [hw3]; exact (Below.refl _ _).alloc (Nat.le_refl _) _)
      rw [← hg25]
      have HP25 := Lib.hid hb25; clear hb25 hw3 hg25
      refine ⟨later_of (chg_of HBw3.out), ?_⟩
      refine plan_one [true] 0 4 (by dsimp only [sel]) (by rfl) rfl (by kernel_rfl) ?_; intro K1 hK1
      go_wp2_with fail
      obtain ⟨w4, hw4⟩ : ∃ x, x = w3.alloc (.cells #[] 78) := ⟨_, rfl⟩
      rw [← hw4]
      obtain ⟨g13, hg13⟩ : ∃ g, g = w3.heap.size := ⟨_, rfl⟩
      have ho13 : w4.ownsRow wc.heap.size 78 2 (.slice (some ⟨g13, 0, none⟩) 0 0) 0 [] := by rw [hw4, hg13]; exact World.ownsRow_made w3 #[] 0 (by have := HBw3.out.size; omega) (by unfold maxLen; omega) (by simp)
      have HBw4 := Lib.hid (show Below wc.heap.size wc w4 from by rw [hw4]; exact HBw3.out.alloc HBw3.out.size _)
      have HBLw4 := Lib.hid (show Below w3.heap.size w3 w4 from by rw [hw4]; exact (Below.refl _ _).alloc (Nat.le_refl _) _)
      have hne : g13 ≠ g25 := by have := HP25.out.lt; omega
      rw [← hg13]
      have HO13 := Lib.hid ho13; clear ho13 hw4 hg13
      refine ⟨later_of (chg_of HBw4.out), ?_⟩
      refine plan_one [false, false, false, false, true] 4 3 (by dsimp only [sel]) (by rfl) rfl (by kernel_rfl) ?_; intro K1 hK1
      refine wpList_app2 _ rfl (.tmp 27) (.tmp 30) 48 rfl wc.heap.size 78 i0 _ 2 24 Try.underlying48 HI.out.1 HI.out.2.1 HI.out.2.2.1 HI.out.2.2.2 rfl (by decide) _ 0 [] rfl (HO13.out) A1 k c1 (fun j => (rf.nrow (l.take k)).getD j undef) rfl (HAT3.out _ HBw4.out) (rf.nrow_one' HK.out) (by unfold maxLen; omega) (by omega) (by have := HBw4.out.size; omega) ?_
      intro v18 w5 hown hg hl
      rw [List.nil_append, rf.nrow_all HK.out, Nat.zero_add] at hown
      have HO18 := Lib.hid hown; clear hown
      have hrow13 : ∀ k, (Value.slice (some ⟨g13, 0, none⟩) 0 0).ownBlock = some k → wc.heap.size ≤ k := fun k hk => (HO13.out.lt k hk).1
      have HBw5 := Lib.hid (HBw4.out.grown hg HBw4.out.size hrow13)
      have hg18 : Chg w4 w5 (fun k => k = g13) := (Chg.grown hg).mono fun k _ hk => by
        have hk2 : (Value.slice (some ⟨g13, 0, none⟩) 0 0).ownBlock = some k := hk
        have : g13 = k := by simpa [Value.ownBlock] using hk2
        exact this.symm
      have HG18 := Lib.hid hg18; clear hg hl hrow13 hg18
      go_wp2_with fail
      refine ⟨later_of (chg_of HBw5.out), ?_⟩
      refine plan_one [false, false, false, false, false, false, false, false, false, true] 9 2 (by dsimp only [sel]) (by rfl) rfl (by kernel_rfl) ?_; intro K1 hK1
      refine wpList_app2 _ rfl (.tmp 31) (.tmp 35) 48 rfl wc.heap.size 78 i0 _ 2 24 Try.underlying48 HI.out.1 HI.out.2.1 HI.out.2.2.1 HI.out.2.2.2 rfl (by decide) _ k (rf.nrow (l.take k)) rfl (HO18.out) (some ⟨g25, 0, none⟩) 1 1 (fun j => ([.string s, .int .i64 (f : Int)] : List Value).getD j undef) rfl (rf.at_one (HG18.out.blk ((chg_of (P := fun _ => False) HBLw4.out).blk HP25.out fun h => h) (fun h => hne h.symm))) (rf.one_one s f) (by unfold maxLen; omega) (by omega) (by have := HBw5.out.size; omega) ?_
      intro v26 w9 hown hg hl
      have HO26 := Lib.hid hown; clear hown
      have HB9 := Lib.hid (HBw5.out.grown hg HBw5.out.size fun k hk => ((HO18.out).lt k hk).1); clear hg hl
      go_wp2_with fail
      refine ⟨later_of (chg_of HB9.out), ?_⟩
      refine plan_one [false, false, false, false, false, false, false, false, false, false, false, false, false, true] 13 1 (by dsimp only [sel]) (by rfl) rfl (by kernel_rfl) ?_; intro K1 hK1
      refine wpList_app2 _ rfl (.tmp 36) (.tmp 39) 48 rfl wc.heap.size 78 i0 _ 2 24 Try.underlying48 HI.out.1 HI.out.2.1 HI.out.2.2.1 HI.out.2.2.2 rfl (by decide) _ (k + 1) _ rfl HO26.out A4 (n - k) (c1 - k) (fun j => (rf.nrow (l.drop k)).getD j undef) rfl (HAT4.out _ HB9.out) (rf.nrow_one' HD.out) (by unfold maxLen; omega) (by omega) (by have := HB9.out.size; omega) ?_
      intro v27 w10 hown hg hl
      rw [rf.nrow_all HD.out] at hown
      have HO27 := Lib.hid hown; clear hown
      have HB10 := Lib.hid (HB9.out.grown hg HB9.out.size fun k hk => (HO26.out.lt k hk).1); clear hg hl
      go_wp2_with fail
      refine ⟨later_of (chg_of HB10.out), ?_⟩
      obtain ⟨A9, c9, hv9, -⟩ := own_at HO27.out
      have HP := Lib.hid (HFIN.out w10 v27 HO27.out HB10.out)
      subst hv9
      go_simp
      refine plan_one [false, false, false, false, false, false, false, false, false, false, false, false, false, false, true] 14 0 (by dsimp only [sel]) (by rfl) rfl (by kernel_rfl) ?_; intro K1 hK1; go_wp2_with fail
      refine ⟨later_of (chg_of HB10.out), ?_⟩
      refine wp_plan_end (by kernel_rfl) ?_
      go_wp2_with fail
      go_ret
      exact ⟨_, rfl, HP.out⟩
end
section
open Go.RowKit Go.Maps
set_option maxRecDepth 100000

def rf.acells (a : RAct) : List Value := [.int .i64 (a.kind : Int), .string a.a, .string a.b, .int .i64 (a.f : Int)]
def rf.arow (l : List RAct) : List Value := (l.map rf.acells).flatten
theorem rf.arow_len (l : List RAct) : (rf.arow l).length = l.length * 4 := flat_len rf.acells 4 (fun _ => rfl) l
theorem rf.arow_append (a b : List RAct) : rf.arow (a ++ b) = rf.arow a ++ rf.arow b := by simp [rf.arow]
theorem rf.arow_at {l : List RAct} {i : Nat} {x : RAct} (h : l[i]? = some x) (j : Nat) (hj : j < 4) : (rf.arow l).getD (i * 4 + j) undef = (rf.acells x).getD j undef := flat_get rf.acells 4 (fun _ => rfl) l i j x h hj
/-- A file: where its bytes lie, and what it is. -/
structure RFil where
  val : Value
  v : FileV
def rf.fcells (x : RFil) : List Value := [x.val, .int .i64 (x.v.safe : Int)]
def rf.frow (l : List RFil) : List Value := (l.map rf.fcells).flatten
theorem rf.frow_len (l : List RFil) : (rf.frow l).length = l.length * 2 := flat_len rf.fcells 2 (fun _ => rfl) l
theorem rf.frow_append (a b : List RFil) : rf.frow (a ++ b) = rf.frow a ++ rf.frow b := by simp [rf.frow]
theorem rf.frow_at {l : List RFil} {i : Nat} {x : RFil} (h : l[i]? = some x) : (rf.frow l).getD (i * 2) undef = x.val ∧ (rf.frow l).getD (i * 2 + 1) undef = .int .i64 (x.v.safe : Int) :=
  ⟨flat_get rf.fcells 2 (fun _ => rfl) l i 0 x h (by omega), flat_get rf.fcells 2 (fun _ => rfl) l i 1 x h (by omega)⟩
def rf.cells (M : RDisk) (fv nv sv av : Value) : Array Value := #[.int .i64 M.room, fv, nv, sv, av, .int .i64 M.left, .bool M.off, .int .i64 M.ops]
/-- The document's disk in memory: q its struct, G its blocks. -/
structure RefAt (w : World) (q : Nat) (M : RDisk) (G : Nat → Prop) (fs : List RFil) (fv nv sv av : Value) : Prop where
  blk : Blk w q 51 (rf.cells M fv nv sv av)
  frow : w.ownsRow 0 89 2 fv fs.length (rf.frow fs)
  files : fs.map RFil.v = M.files
  bytes : ∀ x ∈ fs, w.ownsRow 0 5 1 x.val x.v.data.length (u8s x.v.data)
  nrow : w.ownsRow 0 78 2 nv M.now.length (rf.nrow M.now)
  srow : w.ownsRow 0 78 2 sv M.safe.length (rf.nrow M.safe)
  arow : w.ownsRow 0 105 4 av M.acts.length (rf.arow M.acts)
  foot : G q ∧ (∀ k, fv.ownBlock = some k → G k) ∧ (∀ k, nv.ownBlock = some k → G k) ∧ (∀ k, sv.ownBlock = some k → G k) ∧ (∀ k, av.ownBlock = some k → G k) ∧ ∀ x ∈ fs, ∀ k, x.val.ownBlock = some k → G k
  lt : ∀ k, G k → k < w.heap.size
def RefD (w : World) (q : Nat) (M : RDisk) (G : Nat → Prop) : Prop := ∃ fs fv nv sv av, RefAt w q M G fs fv nv sv av
theorem RefAt.keep {w w' : World} {q : Nat} {M : RDisk} {G P : Nat → Prop} {fs : List RFil} {fv nv sv av : Value} (h : RefAt w q M G fs fv nv sv av) (hc : Chg w w' P) (hp : ∀ k, G k → ¬ P k) : RefAt w' q M G fs fv nv sv av := by
  obtain ⟨f1, f2, f3, f4, f5, f6⟩ := h.foot
  exact ⟨hc.blk h.blk (hp _ f1), hc.own h.frow fun k hk => hp _ (f2 k hk), h.files, fun x hx => hc.own (h.bytes x hx) fun k hk => hp _ (f6 x hx k hk), hc.own h.nrow fun k hk => hp _ (f3 k hk), hc.own h.srow fun k hk => hp _ (f4 k hk), hc.own h.arow fun k hk => hp _ (f5 k hk), h.foot, fun k hk => Nat.lt_of_lt_of_le (h.lt k hk) hc.size⟩
theorem RefD.keep {w w' : World} {q : Nat} {M : RDisk} {G P : Nat → Prop} (h : RefD w q M G) (hc : Chg w w' P) (hp : ∀ k, G k → ¬ P k) : RefD w' q M G := by
  obtain ⟨fs, fv, nv, sv, av, h⟩ := h
  exact ⟨fs, fv, nv, sv, av, h.keep hc hp⟩
theorem RefD.below {w w' : World} {q : Nat} {M : RDisk} {G : Nat → Prop} (h : RefD w q M G) (hb : Below w.heap.size w w') : RefD w' q M G := h.keep (chg_of (P := fun _ => False) hb) fun _ _ q => q
theorem RefD.up {w : World} {q : Nat} {M : RDisk} {G : Nat → Prop} (h : RefD w q M G) : G q ∧ ∀ k, G k → k < w.heap.size := by
  obtain ⟨fs, fv, nv, sv, av, h⟩ := h
  exact ⟨h.foot.1, h.lt⟩
/-- One step further: the struct is written, some of its parts are new. -/
theorem RefAt.next {w w' : World} {q : Nat} {M M' : RDisk} {G : Nat → Prop} {fs fs' : List RFil} {fv nv sv av fv' nv' sv' av' : Value} (h : RefAt w q M G fs fv nv sv av) (hc : Chg w w' (fun k => k = q))
    (hb : Blk w' q 51 (rf.cells M' fv' nv' sv' av'))
    (hf : (fv' = fv ∧ fs' = fs ∧ M'.files = M.files) ∨ (w'.ownsRow w.heap.size 89 2 fv' fs'.length (rf.frow fs') ∧ fs'.map RFil.v = M'.files ∧ ∀ x ∈ fs', x ∈ fs ∨ w'.ownsRow w.heap.size 5 1 x.val x.v.data.length (u8s x.v.data) ∨ (w.ownsRow 0 5 1 x.val x.v.data.length (u8s x.v.data) ∧ ∀ k, x.val.ownBlock = some k → G k)))
    (hn : (nv' = nv ∧ M'.now = M.now) ∨ w'.ownsRow w.heap.size 78 2 nv' M'.now.length (rf.nrow M'.now))
    (hs : (sv' = sv ∧ M'.safe = M.safe) ∨ (sv' = nv ∧ M'.safe = M.now))
    (ha : (av' = av ∧ M'.acts = M.acts) ∨ w'.ownsRow w.heap.size 105 4 av' M'.acts.length (rf.arow M'.acts)) : RefAt w' q M' (dk.grow G w w') fs' fv' nv' sv' av' := by
  obtain ⟨f1, f2, f3, f4, f5, f6⟩ := h.foot
  have hup : ∀ k, G k → dk.grow G w w' k := fun k hk => ⟨.inl hk, Nat.lt_of_lt_of_le (h.lt k hk) hc.size⟩
  have hnew : ∀ {e : TypeId} {n m : Nat} {v : Value} {xs : List Value}, w'.ownsRow w.heap.size e m v n xs → ∀ k, v.ownBlock = some k → dk.grow G w w' k := fun hr k hk => ⟨.inr (hr.lt k hk).1, (hr.lt k hk).2⟩
  have o1 := hc.own h.frow fun k hk e => by subst e; exact h.blk.not_row (by decide) h.frow hk
  have o2 := hc.own h.nrow fun k hk e => by subst e; exact h.blk.not_row (by decide) h.nrow hk
  have o3 := hc.own h.srow fun k hk e => by subst e; exact h.blk.not_row (by decide) h.srow hk
  have o4 := hc.own h.arow fun k hk e => by subst e; exact h.blk.not_row (by decide) h.arow hk
  have o5 := fun x hx => hc.own (h.bytes x hx) fun k hk e => by subst e; exact h.blk.not_row (by decide) (h.bytes x hx) hk
  refine ⟨hb, ?_, ?_, fun x hx => ?_, ?_, ?_, ?_, ⟨hup _ f1, ?_, ?_, ?_, ?_, fun x hx k hk => ?_⟩, fun k hk => hk.2⟩
  · rcases hf with ⟨rfl, rfl, -⟩ | ⟨h1, -, -⟩
    · exact o1
    · exact ownsRow_base h1 (Nat.zero_le _)
  · rcases hf with ⟨-, rfl, e⟩ | ⟨-, h2, -⟩
    · rw [e]; exact h.files
    · exact h2
  · rcases hf with ⟨-, rfl, -⟩ | ⟨-, -, h3⟩
    · exact o5 x hx
    · rcases h3 x hx with h3 | h3 | ⟨h3, -⟩
      · exact o5 x h3
      · exact ownsRow_base h3 (Nat.zero_le _)
      · exact hc.own h3 fun k hk e => by subst e; exact h.blk.not_row (by decide) h3 hk
  · rcases hn with ⟨rfl, e⟩ | h1
    · rw [e]; exact o2
    · exact ownsRow_base h1 (Nat.zero_le _)
  · rcases hs with ⟨rfl, e⟩ | ⟨rfl, e⟩
    · rw [e]; exact o3
    · rw [e]; exact o2
  · rcases ha with ⟨rfl, e⟩ | h1
    · rw [e]; exact o4
    · exact ownsRow_base h1 (Nat.zero_le _)
  · rcases hf with ⟨rfl, -, -⟩ | ⟨h1, -, -⟩
    · exact fun k hk => hup k (f2 k hk)
    · exact hnew h1
  · rcases hn with ⟨rfl, -⟩ | h1
    · exact fun k hk => hup k (f3 k hk)
    · exact hnew h1
  · rcases hs with ⟨rfl, -⟩ | ⟨rfl, -⟩
    · exact fun k hk => hup k (f4 k hk)
    · exact fun k hk => hup k (f3 k hk)
  · rcases ha with ⟨rfl, -⟩ | h1
    · exact fun k hk => hup k (f5 k hk)
    · exact hnew h1
  · rcases hf with ⟨-, rfl, -⟩ | ⟨-, -, h3⟩
    · exact hup k (f6 x hx k hk)
    · rcases h3 x hx with h3 | h3 | ⟨-, h3⟩
      · exact hup k (f6 x h3 k hk)
      · exact hnew h3 k hk
      · exact hup k (h3 k hk)
theorem RefAt.now_at {w : World} {q : Nat} {M : RDisk} {G : Nat → Prop} {fs : List RFil} {fv nv sv av : Value} (h : RefAt w q M G fs fv nv sv av) : ∃ A c, nv = .slice A M.now.length c ∧ rf.NAt w A M.now := by
  obtain ⟨A, c, e, -, hat⟩ := own_at h.nrow
  exact ⟨A, c, e, hat⟩

set_option maxHeartbeats 4000000 in
theorem rf.apply_any (A : Option Addr) (c : Nat) (l : RNames) (a : RAct) (w : World) (h : rf.NAt w A l) (hl : l.length ≤ 900000) (hr : rd.Rises l) :
    Calls Try.prog 53 #[.slice A l.length c, .agg #[.int .i64 (a.kind : Int), .string a.a, .string a.b, .int .i64 (a.f : Int)]] w fun e w' => ∃ v, e = .returned v ∧ w'.ownsRow w.heap.size 78 2 v (rd.apply l a).length (rf.nrow (rd.apply l a)) ∧ Below w.heap.size w w' := by
  obtain ⟨kind, sa, sb, f⟩ := a
  have happ : rd.apply l ⟨kind, sa, sb, f⟩ = if kind = 1 then rd.with l sa f else if kind = 2 then rd.with (rd.without l sa) sb f else rd.without l sa := rfl
  have HAPP := Lib.hid happ; clear happ
  dsimp only
  obtain ⟨z, hz⟩ : ∃ z, z = w.heap.size := ⟨_, rfl⟩
  obtain ⟨w1, hw1⟩ : ∃ w1, w1 = w.alloc (.cells #[.int .i64 (kind : Int), .string sa, .string sb, .int .i64 (f : Int)] 105) := ⟨_, rfl⟩
  have hk1 : Blk w1 z 105 #[.int .i64 (kind : Int), .string sa, .string sb, .int .i64 (f : Int)] := by rw [hw1, hz]; exact Blk.new _ _ _
  have hb1 : Below w.heap.size w w1 := by rw [hw1]; exact (Below.refl _ _).alloc (Nat.le_refl _) _
  have hzw := hk1.lt
  have c0 := hk1.cell 0 (v := .int .i64 (kind : Int)) rfl
  have c1 := hk1.cell 1 (v := .string sa) rfl
  have c2 := hk1.cell 2 (v := .string sb) rfl
  have c3 := hk1.cell 3 (v := .int .i64 (f : Int)) rfl
  have hat := h.below hb1 (Nat.le_refl _)
  have hwith := fun (wx : World) (hx : Below w1.heap.size w1 wx) => rf.with_any A c l sa f wx (hat.below hx (Nat.le_refl _)) (by omega) hr
  have hwo := fun (wx : World) (hx : Below w1.heap.size w1 wx) => rf.without_any A c l sa wx (hat.below hx (Nat.le_refl _)) (by omega)
  have H1 := Lib.hid (And.intro hk1 (And.intro hb1 (And.intro hwith hwo))); clear hk1 hb1 hat hwith hwo
  obtain ⟨n, hn⟩ : ∃ n, n = l.length := ⟨_, rfl⟩
  rw [← hn] at H1 hl ⊢
  have HN := Lib.hid (And.intro hn.symm hr); clear hn hr h
  have HW := Lib.hid (And.intro hw1 hz); clear hw1 hz
  go_enter Try.func53, Try.ntmps53
  go_upto_region 1 with fail
  rw [← HW.out.1, ← HW.out.2]
  have hfin : ∀ (wx : World) (v : Value) (m : RNames), Below w1.heap.size w1 wx → wx.ownsRow w1.heap.size 78 2 v m.length (rf.nrow m) → wx.ownsRow w.heap.size 78 2 v m.length (rf.nrow m) ∧ Below w.heap.size w wx := fun wx v m h1 h2 => ⟨ownsRow_base h2 H1.out.2.1.size, H1.out.2.1.trans (h1.mono H1.out.2.1.size)⟩
  have HFIN := Lib.hid hfin; clear hfin
  by_cases k1 : kind = 1
  · subst k1
    have ha := HAPP.out
    rw [if_pos rfl] at ha
    have HA := Lib.hid ha; clear ha
    go_wp2_with (go_at_call 64; refine (H1.out.2.2.1 w1 (Below.refl _ _)).mono ?_; rintro e w2 ⟨v, rfl, h1, h2⟩; obtain ⟨A2, c2', hv2, -⟩ := own_at h1; have HP := Lib.hid (HFIN.out _ _ _ h2 h1); clear h1 h2; subst hv2)
    go_ret
    exact ⟨_, rfl, by rw [HA.out]; exact HP.out.1, HP.out.2⟩
  · have g1 : ((kind : Int) == 1) = false := by simp; omega
    have g1' : decide ((kind : Int) = 1) = false := decide_eq_false (by omega)
    by_cases k2 : kind = 2
    · subst k2
      have ha := HAPP.out
      rw [if_neg (by decide), if_pos rfl] at ha
      have HA := Lib.hid ha; clear ha
      go_upto_region 5 with fail
      have hnl : (rd.without l sa).length ≤ 900000 := by have := rd.without_len l sa; have := HN.out.1; omega
      have HNL := Lib.hid hnl; clear hnl
      have q1 : ∀ y : Later w1 (fun _ => False), y.1.cell? ⟨z, 1, none⟩ = some (.string sa) := fun y => (y.2.blk H1.out.1 id).cell 1 rfl
      have q2 : ∀ y : Later w1 (fun _ => False), y.1.cell? ⟨z, 2, none⟩ = some (.string sb) := fun y => (y.2.blk H1.out.1 id).cell 2 rfl
      have q3 : ∀ y : Later w1 (fun _ => False), y.1.cell? ⟨z, 3, none⟩ = some (.int .i64 (f : Int)) := fun y => (y.2.blk H1.out.1 id).cell 3 rfl
      have hdr : Below w1.heap.size w1 w1.drew := bdrew (Below.refl _ _) 1
      have HDR := Lib.hid hdr; clear hdr
      have hS0 : later w1 (fun _ => False) w1.drew := later_of ((Chg.refl _ _).drew)
      refine wp_plan (S := fun w0 => ∃ x : Later w1 (fun _ => False), w0 = x.1) (by kernel_rfl) hS0 ?_
      intro hS' K5 hK5
      have HS := Lib.hid hS'; clear hS' hS0
      refine plan_group [true, true, true, false, true, true, true, true] [0, 1, 2, 4, 5, 6, 7] 3 (by dsimp only [sel]) (by rfl) rfl (by kernel_rfl) (by kernel_rfl) HS.out ?_
      (repeat go_big_quiet_step (fail)); refine wpQuiet_nil ?_
      refine plan_one [false, false, false, true] 3 2 (by dsimp only [sel]) (by rfl) rfl (by kernel_rfl) ?_; intro K1 hK1; go_wp2_with fail
      refine (H1.out.2.2.2 _ HDR.out).mono ?_
      rintro e w2 ⟨v, rfl, h1, h2⟩
      have hb2 := HDR.out.trans (h2.mono HDR.out.size)
      obtain ⟨A2, cc2, hv2, -, hat2⟩ := own_at h1
      subst hv2
      have hw2 := rf.with_any A2 cc2 (rd.without l sa) sb f w2 hat2 (by have := HNL.out; omega) (rd.rises_without HN.out.2 sa)
      have H2 := Lib.hid (And.intro hb2 hw2); clear hb2 hw2 h1 h2 hat2
      obtain ⟨m2, hm2⟩ : ∃ m2, m2 = (rd.without l sa).length := ⟨_, rfl⟩
      rw [← hm2] at H2 ⊢
      clear hm2
      go_wp2_with fail
      refine ⟨later_of (chg_of H2.out.1), ?_⟩
      refine plan_one [false, false, false, false, false, false, false, false, true] 8 1 (by dsimp only [sel]) (by rfl) rfl (by kernel_rfl) ?_; intro K1 hK1; go_wp2_with fail
      refine H2.out.2.mono ?_
      rintro e w3 ⟨v, rfl, h1, h2⟩
      obtain ⟨A3, cc3, hv3, -⟩ := own_at h1
      have hb3 := H2.out.1.trans (h2.mono H2.out.1.size)
      have HP := Lib.hid (HFIN.out _ _ _ hb3 (ownsRow_base h1 H2.out.1.size))
      have HB3 := Lib.hid hb3; clear hb3 h1 h2
      subst hv3
      go_wp2_with fail
      refine ⟨later_of (chg_of HB3.out), ?_⟩
      go_simp
      refine plan_one [false, false, false, false, false, false, false, false, false, true] 9 0 (by dsimp only [sel]) (by rfl) rfl (by kernel_rfl) ?_; intro K1 hK1; go_wp2_with fail
      refine ⟨later_of (chg_of HB3.out), ?_⟩
      refine wp_plan_end (by kernel_rfl) ?_
      go_wp2_with fail
      go_ret
      exact ⟨_, rfl, by rw [HA.out]; exact HP.out.1, HP.out.2⟩
    · have g2 : ((kind : Int) == 2) = false := by simp; omega
      have g2' : decide ((kind : Int) = 2) = false := decide_eq_false (by omega)
      have ha := HAPP.out
      rw [if_neg k1, if_neg k2] at ha
      have HA := Lib.hid ha; clear ha k1 k2
      go_wp2_with (go_at_call 65; refine (H1.out.2.2.2 w1 (Below.refl _ _)).mono ?_; rintro e w2 ⟨v, rfl, h1, h2⟩; obtain ⟨A2, c2', hv2, -⟩ := own_at h1; have HP := Lib.hid (HFIN.out _ _ _ h2 h1); clear h1 h2; subst hv2)
      go_ret
      exact ⟨_, rfl, by rw [HA.out]; exact HP.out.1, HP.out.2⟩
end
section
open Go.RowKit Go.Maps
set_option maxRecDepth 100000

set_option maxHeartbeats 4000000 in
theorem rf.act_blk (q : Nat) (M : RDisk) (fv nv sv av : Value) (A : Option Addr) (n c : Nat) (L : List ByteArray) (w : World) (hb : Blk w q 51 (rf.cells M fv nv sv av)) (hat : At w A n (fun j => .string (L.getD j dk.no))) (hne : ∀ b off, A = some ⟨b, off, none⟩ → b ≠ q) (hl : L.length = n) (hn : n ≤ 1000)
    (hops : -1000000 ≤ M.ops ∧ M.ops ≤ 1000000) (hleft : -1 ≤ M.left ∧ M.left ≤ 9223372036854775807) (hsz : ∀ s ∈ L, s.size ≤ maxLen) :
    Calls Try.prog 56 #[.pointer (some ⟨q, 0, none⟩), .slice A n c] w fun e w' => e = .returned (.int .i64 (M.actE L)) ∧ Blk w' q 51 (rf.cells M.acted fv nv sv av) ∧ Chg w w' (fun k => k = q) ∧ w'.heap.size = w.heap.size := by
  obtain ⟨room, files, now, safe, acts, left, off, ops⟩ := M
  unfold rf.cells at hb ⊢
  unfold RDisk.actE RDisk.acted
  dsimp only at hops hleft hb ⊢
  have hdies : (⟨room, files, now, safe, acts, left, off, ops⟩ : RDisk).dies = (off || decide (left = 0)) := rfl
  rw [hdies]
  clear hdies
  obtain ⟨d, hd⟩ : ∃ d : Bool, d = (off || decide (left = 0)) := ⟨_, rfl⟩
  rw [← hd]
  obtain ⟨E, hE⟩ : ∃ E : Int, E = (if d = true then 7 else if L.all dk.okName = true then 0 else 1) := ⟨_, rfl⟩
  rw [← hE]
  obtain ⟨lf, hlf⟩ : ∃ lf : Int, lf = (if d = true then left else if 0 < left then left - 1 else left) := ⟨_, rfl⟩
  rw [← hlf]
  have HE := Lib.hid (And.intro hd (And.intro hE hlf)); clear hd hE hlf
  have k7 := hb.cell 7 (v := .int .i64 ops) rfl
  have z7 := hb.frozen 7
  have hpl := hb.lt
  obtain ⟨w1, hw1⟩ : ∃ w1, w1 = w.setCell ⟨q, 7, none⟩ (.int .i64 (ops + 1)) := ⟨_, rfl⟩
  have hb1 : Blk w1 q 51 #[.int .i64 room, fv, nv, sv, av, .int .i64 left, .bool off, .int .i64 (ops + 1)] := by rw [hw1]; exact hb.set 7 _
  have hc1 : Chg w w1 (fun k => k = q) := by rw [hw1]; exact Chg.setCell _ _ _ _
  have hs1 : w1.heap.size = w.heap.size := by rw [hw1]; simp
  have HB := Lib.hid (And.intro hb1 (And.intro hc1 hs1)); clear hb1 hc1 hs1 hb
  have HAT := Lib.hid (And.intro hat (And.intro hne (And.intro hl hsz))); clear hat hne hl hsz
  go_enter Try.func56, Try.ntmps56
  go_upto_region 2 with fail
  rw [← hw1]
  clear hw1 k7 z7
  have k5 := HB.out.1.cell 5 (v := .int .i64 left) rfl
  have k6 := HB.out.1.cell 6 (v := .bool off) rfl
  have hpl1 := HB.out.1.lt
  have z5 := HB.out.1.frozen 5
  have z6 := HB.out.1.frozen 6
  have hcases : d = true ∨ (off = false ∧ 0 < left) ∨ (off = false ∧ left < 0) := by
    cases off with
    | true => exact .inl (by rw [HE.out.1]; rfl)
    | false =>
      rcases (show left = 0 ∨ 0 < left ∨ left < 0 by omega) with h | h | h
      · exact .inl (by rw [HE.out.1, decide_eq_true h]; rfl)
      · exact .inr (.inl ⟨rfl, h⟩)
      · exact .inr (.inr ⟨rfl, h⟩)
  rcases hcases with hd | ⟨rfl, hlp⟩ | ⟨rfl, hlp⟩
  · have hor : off = true ∨ (off = false ∧ left = 0) := by
      cases off with
      | true => exact .inl rfl
      | false =>
        have := HE.out.1
        rw [hd, Bool.false_or] at this
        exact .inr ⟨rfl, of_decide_eq_true this.symm⟩
    have HF := Lib.hid (show d = true ∧ E = 7 ∧ lf = left from ⟨hd, by rw [HE.out.2.1, if_pos hd], by rw [HE.out.2.2, if_pos hd]⟩); clear hd HE
    obtain ⟨w2, hw2⟩ : ∃ w2, w2 = w1.setCell ⟨q, 6, none⟩ (.bool true) := ⟨_, rfl⟩
    have hb2 : Blk w2 q 51 #[.int .i64 room, fv, nv, sv, av, .int .i64 left, .bool true, .int .i64 (ops + 1)] := by rw [hw2]; exact HB.out.1.set 6 _
    have hc2 : Chg w1 w2 (fun k => k = q) := by rw [hw2]; exact Chg.setCell _ _ _ _
    have hs2 : w2.heap.size = w1.heap.size := by rw [hw2]; simp
    have HB2 := Lib.hid (And.intro hb2 (And.intro (HB.out.2.1.trans hc2 fun _ _ q => q) (hs2.trans HB.out.2.2))); clear hb2 hc2 hs2
    rcases hor with rfl | ⟨rfl, rfl⟩
    · go_upto_region 4 with fail
      rw [← hw2]
      clear hw2 k5 k6 z5 z6
      go_wp2_with fail
      go_ret
      exact ⟨by rw [HF.out.2.1]; rfl, by rw [HF.out.1, HF.out.2.2]; exact HB2.out.1, HB2.out.2⟩
    · go_upto_region 4 with fail
      rw [← hw2]
      clear hw2 k5 k6 z5 z6
      go_wp2_with fail
      go_ret
      exact ⟨by rw [HF.out.2.1]; rfl, by rw [HF.out.1, HF.out.2.2]; exact HB2.out.1, HB2.out.2⟩
  · have hd : d = false := by rw [HE.out.1, decide_eq_false (by omega)]; rfl
    have HF := Lib.hid (show d = false ∧ E = (if L.all dk.okName = true then 0 else 1) ∧ lf = left - 1 from ⟨hd, by rw [HE.out.2.1, if_neg (by rw [hd]; simp)], by rw [HE.out.2.2, if_neg (by rw [hd]; simp), if_pos hlp]⟩); clear hd HE
    have h2 : decide (left = 0) = false := decide_eq_false (by omega)
    have h3 : (left == 0) = false := by simp; omega
    have h4 : decide (0 < left) = true := decide_eq_true hlp
    obtain ⟨w2, hw2⟩ : ∃ w2, w2 = w1.setCell ⟨q, 5, none⟩ (.int .i64 (left - 1)) := ⟨_, rfl⟩
    have hb2 : Blk w2 q 51 #[.int .i64 room, fv, nv, sv, av, .int .i64 (left - 1), .bool false, .int .i64 (ops + 1)] := by rw [hw2]; exact HB.out.1.set 5 _
    have hc2 : Chg w1 w2 (fun k => k = q) := by rw [hw2]; exact Chg.setCell _ _ _ _
    have hs2 : w2.heap.size = w1.heap.size := by rw [hw2]; simp
    have HB2 := Lib.hid (And.intro hb2 (And.intro (HB.out.2.1.trans hc2 fun _ _ q => q) (hs2.trans HB.out.2.2))); clear hb2 hc2 hs2
    go_upto_region 7 with fail
    rw [← hw2]
    clear hw2 k5 k6 z5 z6 h2 h3 h4
    have hbl : Blk w2 q 51 #[.int .i64 room, fv, nv, sv, av, .int .i64 lf, .bool d, .int .i64 (ops + 1)] := by rw [HF.out.1, HF.out.2.2]; exact HB2.out.1
    have HB3 := Lib.hid (And.intro HF.out.2.1 (And.intro hbl HB2.out.2)); clear hbl HB HB2 HF hlp
    have hat2 : At w2 A n (fun j => .string (L.getD j dk.no)) := HB3.out.2.2.1.at' HAT.out.1 fun h0 b off e => HAT.out.2.1 b off e
    have HA2 := Lib.hid (And.intro hat2 (And.intro HAT.out.2.2.1 HAT.out.2.2.2)); clear hat2 HAT
    go_wp2_with fail
    go_loop [5] (fun i => ∃ k : Nat, k ≤ n ∧ i = .int .i64 (k : Int) ∧ ∀ s ∈ L.take k, dk.okName s = true) (fun i => n - (intOf i).toNat)
    case atStart => exact ⟨0, by omega, rfl, by simp⟩
    case round =>
      obtain ⟨k, hk, rfl, hok⟩ := hrel
      have HOK := Lib.hid hok; clear hok
      by_cases hlt : k < n
      · have hlt' : (k : Int) < (n : Int) := by omega
        obtain ⟨s, hs⟩ : ∃ s, L[k]? = some s := ⟨_, List.getElem?_eq_getElem (by rw [HA2.out.2.1]; exact hlt)⟩
        obtain ⟨b2, o2, rfl, hb2, hc⟩ := HA2.out.1 (by omega)
        have q0 : w2.cell? ⟨b2, o2 + k, none⟩ = some (.string s) := (hc k hlt).trans (by dsimp only; rw [List.getD_eq_getElem?_getD, hs]; rfl)
        have hss := HA2.out.2.2 s (List.mem_of_getElem? hs)
        unfold maxLen at hss
        obtain ⟨m, hm⟩ : ∃ m, m = s.size := ⟨_, rfl⟩
        have hmm : m ≤ 9223372036854775807 := by omega
        have hstep : 1 ≤ m → m ≤ 100 → ∀ t ∈ L.take (k + 1), dk.okName t = true := fun g1 g2 t ht => by
          obtain ⟨h1, h2⟩ := List.getElem?_eq_some_iff.1 hs
          rw [List.take_succ_eq_append_getElem h1, h2] at ht
          rcases List.mem_append.1 ht with ht | ht
          · exact HOK.out t ht
          · rw [List.mem_singleton.1 ht]
            unfold dk.okName
            rw [decide_eq_true_eq]
            omega
        have hbad : ¬ (1 ≤ m ∧ m ≤ 100) → E = 1 := fun g => by
          rw [HB3.out.1, if_neg]
          intro ha
          have h1 := List.all_eq_true.1 ha s (List.mem_of_getElem? hs)
          unfold dk.okName at h1
          rw [decide_eq_true_eq] at h1
          omega
        have HST := Lib.hid (And.intro hstep hbad); clear hstep hbad hs hc hss
        have HM := Lib.hid hm
        have hsz' : s.size = m := hm.symm
        clear hm
        by_cases h1 : (m : Int) < 1
        · have he := HST.out.2 (by omega)
          have HEE := Lib.hid he; clear he
          go_wp2_with fail
          (try rw [Exit.noGoto_ret])
          go_ret
          exact ⟨by rw [HEE.out]; rfl, HB3.out.2⟩
        by_cases h2 : (100 : Int) < (m : Int)
        · have he := HST.out.2 (by omega)
          have HEE := Lib.hid he; clear he
          go_wp2_with fail
          (try rw [Exit.noGoto_ret])
          go_ret
          exact ⟨by rw [HEE.out]; rfl, HB3.out.2⟩
        have HSN := Lib.hid (HST.out.1 (by omega) (by omega)); clear HST
        go_wp2_with fail
        go_round
        case rel => exact ⟨k + 1, by omega, by go_num, HSN.out⟩
        case measure => simp [intOf]; omega
      · obtain rfl : k = n := by omega
        have he : E = 0 := by
          rw [HB3.out.1, if_pos]
          refine List.all_eq_true.2 fun t ht => HOK.out t ?_
          rw [List.take_of_length_le (by rw [HA2.out.2.1]; exact Nat.le_refl _)]
          exact ht
        have HEE := Lib.hid he; clear he
        go_wp2_with fail
        go_ret
        exact ⟨by rw [HEE.out]; rfl, HB3.out.2⟩
  · have hd : d = false := by rw [HE.out.1, decide_eq_false (by omega)]; rfl
    have HF := Lib.hid (show d = false ∧ E = (if L.all dk.okName = true then 0 else 1) ∧ lf = left from ⟨hd, by rw [HE.out.2.1, if_neg (by rw [hd]; simp)], by rw [HE.out.2.2, if_neg (by rw [hd]; simp), if_neg (by omega)]⟩); clear hd HE
    have h2 : decide (left = 0) = false := decide_eq_false (by omega)
    have h3 : (left == 0) = false := by simp; omega
    have h4 : decide (0 < left) = false := decide_eq_false (by omega)
    go_upto_region 7 with fail
    clear k5 k6 z5 z6 h2 h3 h4
    obtain ⟨w2, hw2⟩ : ∃ w2, w2 = w1 := ⟨_, rfl⟩
    rw [← hw2] at HB ⊢
    clear hw2
    have hbl : Blk w2 q 51 #[.int .i64 room, fv, nv, sv, av, .int .i64 lf, .bool d, .int .i64 (ops + 1)] := by rw [HF.out.1, HF.out.2.2]; exact HB.out.1
    have HB3 := Lib.hid (And.intro HF.out.2.1 (And.intro hbl HB.out.2)); clear hbl HB HF hlp
    have hat2 : At w2 A n (fun j => .string (L.getD j dk.no)) := HB3.out.2.2.1.at' HAT.out.1 fun h0 b off e => HAT.out.2.1 b off e
    have HA2 := Lib.hid (And.intro hat2 (And.intro HAT.out.2.2.1 HAT.out.2.2.2)); clear hat2 HAT
    go_wp2_with fail
    go_loop [5] (fun i => ∃ k : Nat, k ≤ n ∧ i = .int .i64 (k : Int) ∧ ∀ s ∈ L.take k, dk.okName s = true) (fun i => n - (intOf i).toNat)
    case atStart => exact ⟨0, by omega, rfl, by simp⟩
    case round =>
      obtain ⟨k, hk, rfl, hok⟩ := hrel
      have HOK := Lib.hid hok; clear hok
      by_cases hlt : k < n
      · have hlt' : (k : Int) < (n : Int) := by omega
        obtain ⟨s, hs⟩ : ∃ s, L[k]? = some s := ⟨_, List.getElem?_eq_getElem (by rw [HA2.out.2.1]; exact hlt)⟩
        obtain ⟨b2, o2, rfl, hb2, hc⟩ := HA2.out.1 (by omega)
        have q0 : w2.cell? ⟨b2, o2 + k, none⟩ = some (.string s) := (hc k hlt).trans (by dsimp only; rw [List.getD_eq_getElem?_getD, hs]; rfl)
        have hss := HA2.out.2.2 s (List.mem_of_getElem? hs)
        unfold maxLen at hss
        obtain ⟨m, hm⟩ : ∃ m, m = s.size := ⟨_, rfl⟩
        have hmm : m ≤ 9223372036854775807 := by omega
        have hstep : 1 ≤ m → m ≤ 100 → ∀ t ∈ L.take (k + 1), dk.okName t = true := fun g1 g2 t ht => by
          obtain ⟨h1, h2⟩ := List.getElem?_eq_some_iff.1 hs
          rw [List.take_succ_eq_append_getElem h1, h2] at ht
          rcases List.mem_append.1 ht with ht | ht
          · exact HOK.out t ht
          · rw [List.mem_singleton.1 ht]
            unfold dk.okName
            rw [decide_eq_true_eq]
            omega
        have hbad : ¬ (1 ≤ m ∧ m ≤ 100) → E = 1 := fun g => by
          rw [HB3.out.1, if_neg]
          intro ha
          have h1 := List.all_eq_true.1 ha s (List.mem_of_getElem? hs)
          unfold dk.okName at h1
          rw [decide_eq_true_eq] at h1
          omega
        have HST := Lib.hid (And.intro hstep hbad); clear hstep hbad hs hc hss
        have HM := Lib.hid hm
        have hsz' : s.size = m := hm.symm
        clear hm
        by_cases h1 : (m : Int) < 1
        · have he := HST.out.2 (by omega)
          have HEE := Lib.hid he; clear he
          go_wp2_with fail
          (try rw [Exit.noGoto_ret])
          go_ret
          exact ⟨by rw [HEE.out]; rfl, HB3.out.2⟩
        by_cases h2 : (100 : Int) < (m : Int)
        · have he := HST.out.2 (by omega)
          have HEE := Lib.hid he; clear he
          go_wp2_with fail
          (try rw [Exit.noGoto_ret])
          go_ret
          exact ⟨by rw [HEE.out]; rfl, HB3.out.2⟩
        have HSN := Lib.hid (HST.out.1 (by omega) (by omega)); clear HST
        go_wp2_with fail
        go_round
        case rel => exact ⟨k + 1, by omega, by go_num, HSN.out⟩
        case measure => simp [intOf]; omega
      · obtain rfl : k = n := by omega
        have he : E = 0 := by
          rw [HB3.out.1, if_pos]
          refine List.all_eq_true.2 fun t ht => HOK.out t ?_
          rw [List.take_of_length_le (by rw [HA2.out.2.1]; exact Nat.le_refl _)]
          exact ht
        have HEE := Lib.hid he; clear he
        go_wp2_with fail
        go_ret
        exact ⟨by rw [HEE.out]; rfl, HB3.out.2⟩
/-- act, on a disk. -/
theorem rf.act_any (q : Nat) (M : RDisk) (G : Nat → Prop) (fs : List RFil) (fv nv sv av : Value) (A : Option Addr) (n c : Nat) (L : List ByteArray) (w : World) (h : RefAt w q M G fs fv nv sv av) (hw : M.WF) (hat : At w A n (fun j => .string (L.getD j dk.no))) (hne : ∀ b off, A = some ⟨b, off, none⟩ → b ≠ q) (hl : L.length = n) (hn : n ≤ 1000) (hM : M.small) (hsz : ∀ s ∈ L, s.size ≤ maxLen) :
    Calls Try.prog 56 #[.pointer (some ⟨q, 0, none⟩), .slice A n c] w fun e w' => e = .returned (.int .i64 (M.actE L)) ∧ RefAt w' q M.acted (dk.grow G w w') fs fv nv sv av ∧ Chg w w' (fun k => k = q) ∧ w'.heap.size = w.heap.size := by
  refine (rf.act_blk q M fv nv sv av A n c L w h.blk hat hne hl hn hM hw.left hsz).mono ?_
  rintro e w' ⟨h1, h2, h3, h4⟩
  exact ⟨h1, h.next h3 h2 (.inl ⟨rfl, rfl, rfl⟩) (.inl ⟨rfl, rfl⟩) (.inl ⟨rfl, rfl⟩) (.inl ⟨rfl, rfl⟩), h3, h4⟩
theorem RefAt.wide {w : World} {q : Nat} {M : RDisk} {G G' : Nat → Prop} {fs : List RFil} {fv nv sv av : Value} (h : RefAt w q M G fs fv nv sv av) (hup : ∀ k, G k → G' k) (hl : ∀ k, G' k → k < w.heap.size) : RefAt w q M G' fs fv nv sv av := by
  obtain ⟨f1, f2, f3, f4, f5, f6⟩ := h.foot
  exact ⟨h.blk, h.frow, h.files, h.bytes, h.nrow, h.srow, h.arow, ⟨hup _ f1, fun k hk => hup k (f2 k hk), fun k hk => hup k (f3 k hk), fun k hk => hup k (f4 k hk), fun k hk => hup k (f5 k hk), fun x hx k hk => hup k (f6 x hx k hk)⟩, hl⟩
theorem RefAt.grown {w w1 w2 : World} {q : Nat} {M : RDisk} {G : Nat → Prop} {fs : List RFil} {fv nv sv av : Value} (h : RefAt w2 q M (dk.grow (dk.grow G w w1) w1 w2) fs fv nv sv av) (hs : w.heap.size ≤ w1.heap.size) : RefAt w2 q M (dk.grow G w w2) fs fv nv sv av :=
  h.wide (fun _ hk => ⟨hk.1.elim (fun q => q.1) fun q => .inr (Nat.le_trans hs q), hk.2⟩) fun _ hk => hk.2
/-- act, of one name that the caller lays. -/
theorem rf.act_one (q : Nat) (M : RDisk) (G : Nat → Prop) (fs : List RFil) (fv nv sv av : Value) (s : ByteArray) (w : World) (h : RefAt w q M G fs fv nv sv av) (hw : M.WF) (hM : M.small) (hs : s.size ≤ maxLen) :
    Calls Try.prog 56 #[.pointer (some ⟨q, 0, none⟩), .slice (some ⟨w.heap.size, 0, none⟩) 1 1] (w.alloc (.cells #[.string s] 9)) fun e w' => e = .returned (.int .i64 (M.actE [s])) ∧ RefAt w' q M.acted (dk.grow G w w') fs fv nv sv av ∧ Chg w w' (fun k => k = q) ∧ w'.heap.size = w.heap.size + 1 := by
  have hb : Below w.heap.size w (w.alloc (.cells #[.string s] 9)) := (Below.refl _ _).alloc (Nat.le_refl _) _
  have hp := h.blk.lt
  refine (rf.act_any q M G fs fv nv sv av _ 1 1 [s] _ (h.keep (chg_of (P := fun _ => False) hb) fun _ _ q => q) hw ((At.one w (.string s) 9).congr fun j hj => ?_) (fun b off e => ?_) rfl (by omega) hM (fun t ht => by rw [List.mem_singleton.1 ht]; exact hs)).mono ?_
  · obtain rfl : j = 0 := by omega
    rfl
  · have : w.heap.size = b := by simpa using congrArg (fun o => o.map Addr.block) e
    omega
  · rintro e w' ⟨h1, h2, h3, h4⟩
    exact ⟨h1, h2.wide (fun k hk => ⟨hk.1.elim .inl fun q => .inr (by have := hb.size; omega), hk.2⟩) fun _ hk => hk.2, (chg_of (P := fun k => k = q) hb).trans h3 fun _ _ q => q, by rw [h4]; simp⟩
theorem rf.act_two (q : Nat) (M : RDisk) (G : Nat → Prop) (fs : List RFil) (fv nv sv av : Value) (s t : ByteArray) (w : World) (h : RefAt w q M G fs fv nv sv av) (hw : M.WF) (hM : M.small) (hs : s.size ≤ maxLen) (ht : t.size ≤ maxLen) :
    Calls Try.prog 56 #[.pointer (some ⟨q, 0, none⟩), .slice (some ⟨w.heap.size, 0, none⟩) 2 2] (w.alloc (.cells #[.string s, .string t] 9)) fun e w' => e = .returned (.int .i64 (M.actE [s, t])) ∧ RefAt w' q M.acted (dk.grow G w w') fs fv nv sv av ∧ Chg w w' (fun k => k = q) ∧ w'.heap.size = w.heap.size + 1 := by
  have hb : Below w.heap.size w (w.alloc (.cells #[.string s, .string t] 9)) := (Below.refl _ _).alloc (Nat.le_refl _) _
  have hp := h.blk.lt
  refine (rf.act_any q M G fs fv nv sv av _ 2 2 [s, t] _ (h.keep (chg_of (P := fun _ => False) hb) fun _ _ q => q) hw ((At.new w #[.string s, .string t] 9 (fr := (0, 0)) (n := 2) rfl).congr fun j hj => ?_) (fun b off e => ?_) rfl (by omega) hM (fun u hu => by
    simp only [List.mem_cons, List.not_mem_nil, or_false] at hu
    rcases hu with rfl | rfl
    · exact hs
    · exact ht)).mono ?_
  · have hj' : j = 0 ∨ j = 1 := by omega
    rcases hj' with rfl | rfl <;> rfl
  · have : w.heap.size = b := by simpa using congrArg (fun o => o.map Addr.block) e
    omega
  · rintro e w' ⟨h1, h2, h3, h4⟩
    exact ⟨h1, h2.wide (fun k hk => ⟨hk.1.elim .inl fun q => .inr (by have := hb.size; omega), hk.2⟩) fun _ hk => hk.2, (chg_of (P := fun k => k = q) hb).trans h3 fun _ _ q => q, by rw [h4]; simp⟩
end
section
open Go.RowKit Go.Maps
set_option maxRecDepth 100000

theorem rf.New_bad (room : Int) (w : World) (h : ¬ (0 ≤ room ∧ room ≤ 1099511627776)) : Calls Try.prog 13 #[.int .i64 room] w fun e w' => e = .returned (.tuple #[.pointer none, .int .i64 1]) ∧ w = w' := by
  go_enter Try.func13, Try.ntmps13
  by_cases h0 : room < 0
  · have h1 : decide (room < 0) = true := decide_eq_true h0
    go_wp2_with fail
    go_ret2
    exact ⟨rfl, rfl⟩
  · have h1 : decide (room < 0) = false := decide_eq_false h0
    have h2 : decide (1099511627776 < room) = true := decide_eq_true (by omega)
    go_wp2_with fail
    go_ret2
    exact ⟨rfl, rfl⟩
theorem rf.new_at (w : World) (room : Int) : RefAt (w.alloc (.cells (rf.cells (RDisk.new room) (.slice none 0 0) (.slice none 0 0) (.slice none 0 0) (.slice none 0 0)) 51)) w.heap.size (RDisk.new room) (dk.fresh w (w.alloc (.cells (rf.cells (RDisk.new room) (.slice none 0 0) (.slice none 0 0) (.slice none 0 0) (.slice none 0 0)) 51))) [] (.slice none 0 0) (.slice none 0 0) (.slice none 0 0) (.slice none 0 0) :=
  ⟨Blk.new _ _ _, World.ownsRow_nil _ _ _ _, rfl, fun x hx => (by cases hx), World.ownsRow_nil _ _ _ _, World.ownsRow_nil _ _ _ _, World.ownsRow_nil _ _ _ _, ⟨⟨Nat.le_refl _, by simp⟩, fun k hk => (by cases hk), fun k hk => (by cases hk), fun k hk => (by cases hk), fun k hk => (by cases hk), fun x hx => (by cases hx)⟩, fun k hk => hk.2⟩
theorem rf.New_any (room : Int) (w : World) (h : 0 ≤ room ∧ room ≤ 1099511627776) : Calls Try.prog 13 #[.int .i64 room] w fun e w' => ∃ q, e = .returned (.tuple #[.pointer (some ⟨q, 0, none⟩), .int .i64 0]) ∧ RefD w' q (RDisk.new room) (dk.fresh w w') ∧ Below w.heap.size w w' := by
  have hat := rf.new_at w room
  obtain ⟨w1, hw1⟩ : ∃ w1, w1 = w.alloc (.cells (rf.cells (RDisk.new room) (.slice none 0 0) (.slice none 0 0) (.slice none 0 0) (.slice none 0 0)) 51) := ⟨_, rfl⟩
  have hb : Below w.heap.size w w1 := by rw [hw1]; exact (Below.refl _ _).alloc (Nat.le_refl _) _
  rw [← hw1] at hat
  have HP := Lib.hid (And.intro hat hb); clear hat hb
  have h1 : decide (room < 0) = false := decide_eq_false (by omega)
  have h2 : decide (1099511627776 < room) = false := decide_eq_false (by omega)
  go_enter Try.func13, Try.ntmps13
  go_wp2_with fail
  go_ret2
  refine ⟨w.heap.size, rfl, ?_, ?_⟩
  · have := HP.out.1
    rw [hw1] at this
    exact ⟨_, _, _, _, _, this⟩
  · have := HP.out.2
    rw [hw1] at this
    exact this

/-- Where a name stands, and the file that it leads to, in memory. -/
theorem RefAt.led {w : World} {q : Nat} {M : RDisk} {G : Nat → Prop} {fs : List RFil} {fv nv sv av : Value} (h : RefAt w q M G fs fv nv sv av) (hw : M.WF) {j : Nat} {x : ByteArray × Nat} (hx : M.now[j]? = some x) :
    ∃ (y : RFil) (gn cn gf cf : Nat), nv = .slice (some ⟨gn, 0, none⟩) M.now.length cn ∧ fv = .slice (some ⟨gf, 0, none⟩) fs.length cf ∧ fs[x.2]? = some y ∧ y.v = M.file x.2 ∧ gn < w.heap.size ∧ gf < w.heap.size ∧
      w.cell? ⟨gn, j * 2 + 1, none⟩ = some (.int .i64 (x.2 : Int)) ∧ w.cell? ⟨gf, x.2 * 2, none⟩ = some y.val ∧ w.cell? ⟨gf, x.2 * 2 + 1, none⟩ = some (.int .i64 (y.v.safe : Int)) ∧ w.ownsRow 0 5 1 y.val y.v.data.length (u8s y.v.data) ∧ x.2 < fs.length := by
  have hj := (List.getElem?_eq_some_iff.1 hx).1
  have hlt := (hw.good x (List.mem_of_getElem? hx)).1
  have hfl : fs.length = M.files.length := by rw [← h.files, List.length_map]
  obtain ⟨y, hy⟩ : ∃ y, fs[x.2]? = some y := ⟨_, List.getElem?_eq_getElem (by omega)⟩
  have hyv : y.v = M.file x.2 := by
    unfold RDisk.file
    rw [← h.files, List.getD_eq_getElem?_getD, List.getElem?_map, hy]
    rfl
  obtain ⟨gn, cn, e1, -, -, -, hgn, hat1⟩ := own_pos4 h.nrow (by omega)
  obtain ⟨gf, cf, e2, -, -, -, hgf, hat2⟩ := own_pos4 h.frow (by omega)
  obtain ⟨r0, r1⟩ := rf.nrow_at hx
  obtain ⟨f0, f1⟩ := rf.frow_at hy
  have key : ∀ (g n : Nat) (V : Nat → Value), At w (some ⟨g, 0, none⟩) n V → ∀ i, i < n → w.cell? ⟨g, i, none⟩ = some (V i) := fun g n V hat i hi => by
    obtain ⟨b, o, e, hb, hc⟩ := hat (by omega)
    obtain ⟨rfl, rfl⟩ : g = b ∧ 0 = o := by simpa using e
    have := hc i hi
    rwa [Nat.zero_add] at this
  refine ⟨y, gn, cn, gf, cf, e1, e2, hy, hyv, hgn, hgf, ?_, ?_, ?_, h.bytes y (List.mem_of_getElem? hy), by omega⟩
  · rw [key gn _ _ hat1 _ (by omega)]; exact congrArg some r1
  · rw [key gf _ _ hat2 _ (by omega)]; exact congrArg some f0
  · rw [key gf _ _ hat2 _ (by omega)]; exact congrArg some f1
set_option maxHeartbeats 4000000 in
theorem rf.Read_any (s : ByteArray) (q : Nat) (M : RDisk) (G : Nat → Prop) (w : World) (h : RefD w q M G) (hw : M.WF) (hl : M.now.length ≤ 100000) : Calls Try.prog 17 #[.pointer (some ⟨q, 0, none⟩), .string s] w fun e w' => ∃ v, e = .returned (.tuple #[v, .int .i64 (M.readE s)]) ∧ w'.ownsRow 0 5 1 v (M.bytes s).length (u8s (M.bytes s)) ∧ Below w.heap.size w w' ∧ w'.heap.size = w.heap.size := by
  obtain ⟨fs, fv, nv, sv, av, h⟩ := h
  obtain ⟨A, c, hnv, hat⟩ := h.now_at
  have hfind := rf.find_any A c M.now s w hat (by omega)
  have hql := h.blk.lt
  have c2 := h.blk.cell 2 (v := nv) rfl
  have c1 := h.blk.cell 1 (v := fv) rfl
  rw [hnv] at c2
  obtain ⟨z, hz⟩ : ∃ z, z = M.readE s := ⟨_, rfl⟩
  obtain ⟨L, hL⟩ : ∃ L, L = M.bytes s := ⟨_, rfl⟩
  rw [← hz, ← hL]
  unfold RDisk.readE at hz
  unfold RDisk.bytes at hL
  rcases rf.place_look (l := M.now) (s := s) with ⟨h1, h2⟩ | ⟨j, x, h1, -, h3, h4⟩
  · rw [h1] at hz hL
    rw [h2] at hfind
    have HF := Lib.hid hfind
    have HZ := Lib.hid (show z = 5 ∧ L = [] from ⟨hz, hL⟩); clear hz hL hfind h1 h2 c1 hat h hw hl
    go_enter Try.func17, Try.ntmps17
    go_wp2_with (go_at_call 45; refine HF.out.mono ?_; rintro e w1 ⟨rfl, rfl⟩)
    go_ret2
    exact ⟨_, by rw [HZ.out.1]; rfl, by rw [HZ.out.2]; exact World.ownsRow_nil _ _ _ _, Below.refl _ _, rfl⟩
  · rw [h3] at hz hL
    rw [h4] at hfind
    obtain ⟨y, gn, cn, gf, cf, e1, e2, -, e4, hgn, hgf, d1, d2, d3, hrow, hxl⟩ := h.led hw h1
    have hjl := (List.getElem?_eq_some_iff.1 h1).1
    obtain ⟨Ab, cb, hyv, -⟩ := own_at hrow
    rw [hyv] at d2 hrow
    rw [e2] at c1
    obtain ⟨rfl, rfl⟩ : A = some ⟨gn, 0, none⟩ ∧ c = cn := by rw [hnv] at e1; simpa using e1
    have hz' : z = 0 := hz
    have hL' : L = y.v.data := by rw [hL, e4]
    have HF := Lib.hid hfind
    obtain ⟨n, hn⟩ : ∃ n, n = M.now.length := ⟨_, rfl⟩
    obtain ⟨nf, hnf⟩ : ∃ nf, nf = fs.length := ⟨_, rfl⟩
    obtain ⟨kx, hkx⟩ : ∃ kx, kx = x.2 := ⟨_, rfl⟩
    obtain ⟨nb, hnb⟩ : ∃ nb, nb = y.v.data.length := ⟨_, rfl⟩
    rw [← hkx] at d1 d2 d3 hxl
    rw [← hn] at c2 hjl hl HF
    rw [← hnf] at c1 hxl
    rw [← hnb] at d2 hrow
    have HZ := Lib.hid (And.intro hz' (And.intro hL' (And.intro hnb hrow))); clear hz hL hz' hL' hfind hat h h1 h3 h4 e1 e2 e4 hyv hnv hn hnf hkx hnb hrow d3 hw
    have hjl' : (j : Int) < (n : Int) := by omega
    have hxl' : (kx : Int) < (nf : Int) := by omega
    go_enter Try.func17, Try.ntmps17
    go_wp2_with (go_at_call 45; refine HF.out.mono ?_; rintro e w1 ⟨rfl, rfl⟩)
    go_quiet (fail)
    go_wp2_with fail
    go_ret2
    refine ⟨_, by rw [HZ.out.1]; rfl, ?_, bdrew (Below.refl _ _) _, rfl⟩
    rw [HZ.out.2.1, ← HZ.out.2.2.1]
    exact ((Chg.refl w1 (fun _ => False)).drewN nq).own HZ.out.2.2.2 fun _ _ q => q
end
section
open Go.RowKit Go.Maps
set_option maxRecDepth 100000

set_option maxHeartbeats 4000000 in
theorem rf.Used_any (q : Nat) (M : RDisk) (G : Nat → Prop) (w : World) (h : RefD w q M G) (hw : M.WF) (hl : M.now.length ≤ 100000) : Calls Try.prog 43 #[.pointer (some ⟨q, 0, none⟩)] w fun e w' => e = .returned (.int .i64 M.used) ∧ Below w.heap.size w w' ∧ w'.heap.size = w.heap.size := by
  obtain ⟨fs, fv, nv, sv, av, h⟩ := h
  obtain ⟨A, c, hnv, hat⟩ := h.now_at
  have HH := Lib.hid (And.intro h hw)
  have hused : M.used = rd.sum M.len M.now := rfl
  rw [hused]
  obtain ⟨n, hn⟩ : ∃ n, n = M.now.length := ⟨_, rfl⟩
  rw [← hn] at hnv hl
  have HN := Lib.hid (And.intro hn hnv); clear hn hat hused h hw
  have hsum : ∀ k, k ≤ n → 0 ≤ rd.sum M.len (M.now.take k) ∧ rd.sum M.len (M.now.take k) ≤ (k : Int) * 1099511627776 := fun k hk => by
    refine ⟨rd.sum_pos M.len_pos, ?_⟩
    have h1 := rd.sum_bound (g := M.len) (l := M.now.take k) (b := 1099511627776) fun x hx => by
      have := (HH.out.2.short _ (RDisk.file_mem (HH.out.2.good x (List.mem_of_mem_take hx)).1)).2.1
      unfold RDisk.len
      omega
    rw [List.length_take, ← HN.out.1, Nat.min_eq_left hk] at h1
    exact h1
  have HSUM := Lib.hid hsum; clear hsum
  go_enter Try.func43, Try.ntmps43
  go_wp2_with fail
  go_loopw [3, 4] (fun s3 i wr => ∃ k : Nat, k ≤ n ∧ i = .int .i64 (k : Int) ∧ s3 = .int .i64 (rd.sum M.len (M.now.take k)) ∧ Chg w wr (fun _ => False) ∧ wr.heap.size = w.heap.size) (fun _ i _ => n - (intOf i).toNat)
  case atStart => exact ⟨0, by omega, rfl, rfl, Chg.refl _ _, rfl⟩
  case round =>
    obtain ⟨k, hk, rfl, rfl, hc, hsz⟩ := hrel
    have hsk := HSUM.out k hk
    obtain ⟨S, hS⟩ : ∃ S, S = rd.sum M.len (M.now.take k) := ⟨_, rfl⟩
    rw [← hS] at hsk ⊢
    have HS0 := Lib.hid (And.intro hS (And.intro hc hsz)); clear hS hc hsz
    have hq2 := (HS0.out.2.1.blk HH.out.1.blk id).cell 2 (v := nv) rfl
    rw [HN.out.2] at hq2
    have hql := (HS0.out.2.1.blk HH.out.1.blk id).lt
    by_cases hlt : k < n
    · have hlt' : (k : Int) < (n : Int) := by omega
      obtain ⟨x, hx⟩ : ∃ x, M.now[k]? = some x := ⟨_, List.getElem?_eq_getElem (by rw [← HN.out.1]; exact hlt)⟩
      have htk : M.now.take (k + 1) = M.now.take k ++ [x] := by
        obtain ⟨h1, h2⟩ := List.getElem?_eq_some_iff.1 hx
        rw [List.take_succ_eq_append_getElem h1, h2]
      have hr := HH.out.1.keep HS0.out.2.1 fun _ _ q => q
      obtain ⟨y, gn, cn, gf, cf, e1, e2, -, e4, hgn, hgf, d1, d2, -, hrow, hxl⟩ := hr.led HH.out.2 hx
      obtain ⟨Ab, cb, hyv, -⟩ := own_at hrow
      rw [hyv] at d2
      have hq1 := hr.blk.cell 1 (v := fv) rfl
      rw [e2] at hq1
      obtain ⟨rfl, rfl⟩ : A = some ⟨gn, 0, none⟩ ∧ c = cn := by rw [HN.out.2, ← HN.out.1] at e1; simpa using e1
      obtain ⟨nf, hnf⟩ : ∃ nf, nf = fs.length := ⟨_, rfl⟩
      obtain ⟨kx, hkx⟩ : ∃ kx, kx = x.2 := ⟨_, rfl⟩
      obtain ⟨nb, hnb⟩ : ∃ nb, nb = y.v.data.length := ⟨_, rfl⟩
      have hnb1 : nb ≤ 1099511627776 := by
        rw [hnb, e4]
        exact (HH.out.2.short _ (RDisk.file_mem (HH.out.2.good x (List.mem_of_getElem? hx)).1)).2.1
      have hlast : rd.sum M.len (M.now.take (k + 1)) = S + (nb : Int) := by
        rw [htk, rd.sum_append, ← HS0.out.1]
        unfold rd.sum
        simp only [List.map_cons, List.map_nil, List.sum_cons, List.sum_nil]
        unfold RDisk.len
        rw [← e4, ← hnb]
        omega
      rw [← hkx] at d1 d2 hxl
      rw [← hnf] at hq1 hxl
      rw [← hnb] at d2
      have HL := Lib.hid hlast; clear hlast hx htk hr e1 e2 e4 hyv hnf hkx hnb hrow
      have hxl' : (kx : Int) < (nf : Int) := by omega
      go_wp2_with fail
      go_quiet (fail)
      go_wp2_with fail
      go_roundw
      case rel => exact ⟨k + 1, by omega, by go_num, by rw [HL.out], HS0.out.2.1.drewN nq, HS0.out.2.2⟩
      case measure => simp [intOf]; omega
    · obtain rfl : k = n := by omega
      have hfin : S = rd.sum M.len M.now := by rw [HS0.out.1, HN.out.1, List.take_length]
      have HF := Lib.hid hfin; clear hfin
      go_wp2_with fail
      go_ret
      exact ⟨by rw [HF.out]; rfl, HS0.out.2.1.below (Nat.le_refl _) fun _ q => q.elim, HS0.out.2.2⟩
theorem RefAt.scal {w w' : World} {q : Nat} {M M' : RDisk} {G : Nat → Prop} {fs : List RFil} {fv nv sv av : Value} (h : RefAt w q M G fs fv nv sv av) (hc : Chg w w' (fun k => k = q)) (hb : Blk w' q 51 (rf.cells M' fv nv sv av)) (e1 : M'.files = M.files) (e2 : M'.now = M.now) (e3 : M'.safe = M.safe) (e4 : M'.acts = M.acts) : RefAt w' q M' (dk.grow G w w') fs fv nv sv av :=
  h.next hc hb (.inl ⟨rfl, rfl, e1⟩) (.inl ⟨rfl, e2⟩) (.inl ⟨rfl, e3⟩) (.inl ⟨rfl, e4⟩)
set_option maxHeartbeats 1000000 in
theorem rf.Cut_any (n : Int) (q : Nat) (M : RDisk) (G : Nat → Prop) (w : World) (h : RefD w q M G) : Calls Try.prog 41 #[.pointer (some ⟨q, 0, none⟩), .int .i64 n] w fun e w' => e = .returned (.tuple #[]) ∧ RefD w' q (M.cutAt n) (dk.grow G w w') ∧ Chg w w' (fun k => k = q) := by
  obtain ⟨fs, fv, nv, sv, av, h⟩ := h
  have k5 := h.blk.cell 5 (v := .int .i64 M.left) rfl
  have z5 := h.blk.frozen 5
  have hpl := h.blk.lt
  obtain ⟨l, hl⟩ : ∃ l : Int, l = if n < 0 then 0 else n := ⟨_, rfl⟩
  obtain ⟨w1, hw1⟩ : ∃ w1, w1 = w.setCell ⟨q, 5, none⟩ (.int .i64 l) := ⟨_, rfl⟩
  have hc1 : Chg w w1 (fun k => k = q) := by rw [hw1]; exact Chg.setCell _ _ _ _
  have hb1 := h.blk.set 5 (.int .i64 l)
  rw [← hw1] at hb1
  have hsc : RefAt w1 q (M.cutAt n) (dk.grow G w w1) fs fv nv sv av := h.scal hc1 (by unfold RDisk.cutAt; rw [← hl]; exact hb1) rfl rfl rfl rfl
  have HP := Lib.hid (And.intro hsc hc1); clear hsc hc1 hb1 h
  have hmx : max n 0 = l := by rw [hl]; split <;> omega
  have hmi : (if n < 0 then 0 else n) = l := hl.symm
  have hmi2 : (if 0 < n then n else 0) = l := by rw [hl]; split <;> split <;> omega
  have hmi3 : (if n ≤ 0 then 0 else n) = l := by rw [hl]; split <;> split <;> omega
  clear hl
  go_enter Try.func41, Try.ntmps41
  go_wp2_with fail
  (try rw [hmi]); (try rw [hmi2]); (try rw [hmx]); (try rw [hmi3])
  rw [← hw1]
  go_end0
  exact ⟨rfl, ⟨fs, fv, nv, sv, av, HP.out.1⟩, HP.out.2⟩
set_option maxHeartbeats 2000000 in
theorem rf.SyncDir_any (q : Nat) (M : RDisk) (G : Nat → Prop) (w : World) (h : RefD w q M G) (hw : M.WF) (hM : M.small) : Calls Try.prog 40 #[.pointer (some ⟨q, 0, none⟩)] w fun e w' => e = .returned (.int .i64 (M.actE [])) ∧ RefD w' q M.dir (dk.grow G w w') ∧ Chg w w' (fun k => k = q) := by
  obtain ⟨fs, fv, nv, sv, av, h⟩ := h
  have hact := rf.act_any q M G fs fv nv sv av none 0 0 [] w h hw (fun h0 => absurd h0 (by omega)) (fun b off e => by cases e) rfl (by omega) hM (fun s hs => by cases hs)
  have HC := Lib.hid hact; clear hact h
  have hdir : M.dir = if M.actE [] ≠ 0 then M.acted else { M.acted with safe := M.now, acts := [] } := rfl
  obtain ⟨E, hE⟩ : ∃ E, E = M.actE [] := ⟨_, rfl⟩
  obtain ⟨M', hM'⟩ : ∃ M', M' = M.dir := ⟨_, rfl⟩
  rw [← hE] at hdir HC ⊢
  rw [← hM'] at hdir ⊢
  clear hE hM'
  go_enter Try.func40, Try.ntmps40
  by_cases hne : E = 0
  · subst hne
    rw [if_neg (by simp)] at hdir
    have HD := Lib.hid hdir; clear hdir
    go_upto_region 4 with (go_at_call 56; refine HC.out.mono ?_; rintro e w1 ⟨rfl, h1, h2, h3⟩; have H1 := Lib.hid (And.intro h1 (And.intro h2 h3)); clear h1 h2 h3)
    have k2 := H1.out.1.blk.cell 2 (v := nv) rfl
    have k3 := H1.out.1.blk.cell 3 (v := sv) rfl
    have z3 := H1.out.1.blk.frozen 3
    have hpl := H1.out.1.blk.lt
    obtain ⟨A2, c2, hnv, -⟩ := own_at H1.out.1.nrow
    obtain ⟨A3, c3, hsv, -⟩ := own_at H1.out.1.srow
    obtain ⟨A4, c4, hav, -⟩ := own_at H1.out.1.arow
    obtain ⟨w2, hw2⟩ : ∃ w2, w2 = w1.setCell ⟨q, 3, none⟩ nv := ⟨_, rfl⟩
    have hc2 : Chg w1 w2 (fun k => k = q) := by rw [hw2]; exact Chg.setCell _ _ _ _
    have hb2 := H1.out.1.blk.set 3 nv
    rw [← hw2] at hb2
    have k4 := hb2.cell 4 (v := av) rfl
    have z4 := hb2.frozen 4
    have hpl2 := hb2.lt
    obtain ⟨w3, hw3⟩ : ∃ w3, w3 = w2.setCell ⟨q, 4, none⟩ (.slice none 0 0) := ⟨_, rfl⟩
    have hc3 : Chg w2 w3 (fun k => k = q) := by rw [hw3]; exact Chg.setCell _ _ _ _
    have hb3 := hb2.set 4 (.slice none 0 0)
    rw [← hw3] at hb3
    have hc13 := hc2.trans hc3 fun _ _ q => q
    have hnx : RefAt w3 q M' (dk.grow (dk.grow G w w1) w1 w3) fs fv nv nv (.slice none 0 0) := by
      rw [HD.out]
      exact H1.out.1.next hc13 hb3 (.inl ⟨rfl, rfl, rfl⟩) (.inl ⟨rfl, rfl⟩) (.inr ⟨rfl, rfl⟩) (.inr (World.ownsRow_nil _ _ _ _))
    have HP := Lib.hid (And.intro (hnx.grown (by rw [H1.out.2.2]; exact Nat.le_refl _)) (H1.out.2.1.trans hc13 fun _ _ q => q)); clear hnx hc13 hc2 hc3 hb2 hb3
    have HNV := Lib.hid hnv
    rw [hnv] at k2 hw2
    rw [hsv] at k3
    rw [hav] at k4
    clear hnv hsv hav
    go_upto_region 5 with fail
    rw [← hw2]
    clear k2 k3 z3 hw2
    go_wp2_with fail
    rw [← hw3]
    clear hw3 k4 z4
    go_ret
    exact ⟨rfl, ⟨_, _, _, _, _, HP.out.1⟩, HP.out.2⟩
  · rw [if_pos hne] at hdir
    have HD := Lib.hid hdir; clear hdir
    have g2 : decide (E = 0) = false := decide_eq_false hne
    have g3 : (E == 0) = false := by simpa using hne
    clear hne
    go_wp2_with (go_at_call 56; refine HC.out.mono ?_; rintro e w1 ⟨rfl, h1, h2, h3⟩; have H1 := Lib.hid (And.intro h1 (And.intro h2 h3)); clear h1 h2 h3)
    go_ret
    exact ⟨rfl, by rw [HD.out]; exact ⟨_, _, _, _, _, H1.out.1⟩, H1.out.2.1⟩
end
section
open Go.RowKit Go.Maps
set_option maxRecDepth 100000

theorem rf.infoAct : (Try.prog.info? 105).map (fun i => (i.zero, i.size, i.bytes)) = some (some (.agg #[.int .i64 0, .string (ByteArray.mk #[]), .string (ByteArray.mk #[]), .int .i64 0]), 4, 48) := by kernel_rfl
theorem rf.arow_all {l : List RAct} {n : Nat} (h : l.length = n) : cellsOf (n * 4) (fun j => (rf.arow l).getD j undef) = rf.arow l := by
  have := cellsOf_list (rf.arow l)
  rw [rf.arow_len, h] at this
  exact this
theorem rf.arow_one {l : List RAct} {n : Nat} (hn : l.length = n) : ∀ j, j < n * 4 → ((rf.arow l).getD j undef).oneCell' = true := by
  intro j hj
  obtain ⟨x, hx⟩ : ∃ x, l[j / 4]? = some x := ⟨_, List.getElem?_eq_getElem (by omega)⟩
  have h := rf.arow_at hx (j % 4) (Nat.mod_lt _ (by omega))
  rw [show j / 4 * 4 + j % 4 = j by omega] at h
  rw [h]
  have h4 : j % 4 = 0 ∨ j % 4 = 1 ∨ j % 4 = 2 ∨ j % 4 = 3 := by omega
  rcases h4 with e | e | e | e <;> rw [e] <;> rfl
theorem rf.at_four {w : World} {g : Nat} {T : TypeId} {a b c d : Value} (h : Blk w g T #[a, b, c, d]) : At w (some ⟨g, 0, none⟩) (1 * 4) (fun j => ([a, b, c, d] : List Value).getD j undef) := fun _ =>
  ⟨g, 0, rfl, h.lt, fun j hj => by
    rw [Nat.zero_add]
    match j, hj with
    | 0, _ => exact h.cell 0 rfl
    | 1, _ => exact h.cell 1 rfl
    | 2, _ => exact h.cell 2 rfl
    | 3, _ => exact h.cell 3 rfl⟩
theorem rf.four_one (kind : Nat) (sa sb : ByteArray) (f : Nat) : ∀ j, j < 1 * 4 → (([.int .i64 (kind : Int), .string sa, .string sb, .int .i64 (f : Int)] : List Value).getD j undef).oneCell' = true := fun j hj => match j, hj with
  | 0, _ => rfl
  | 1, _ => rfl
  | 2, _ => rfl
  | 3, _ => rfl
theorem rf.four_cells (kind : Nat) (sa sb : ByteArray) (f : Nat) : cellsOf (1 * 4) (fun j => ([.int .i64 (kind : Int), .string sa, .string sb, .int .i64 (f : Int)] : List Value).getD j undef) = rf.arow [⟨kind, sa, sb, f⟩] := rfl
set_option maxHeartbeats 16000000 in
theorem rf.names_any (q : Nat) (M : RDisk) (G : Nat → Prop) (a : RAct) (w : World) (h0 : RefD w q M G) (hw : M.WF) (hl : M.now.length ≤ 100000) (hla : M.acts.length ≤ 100000) :
    Calls Try.prog 57 #[.pointer (some ⟨q, 0, none⟩), .agg #[.int .i64 (a.kind : Int), .string a.a, .string a.b, .int .i64 (a.f : Int)]] w fun e w' => e = .returned (.tuple #[]) ∧ RefD w' q (M.lead a) (dk.grow G w w') ∧ Chg w w' (fun k => k = q) := by
  obtain ⟨fs, fv, nv, sv, av, h⟩ := h0
  obtain ⟨kind, sa, sb, f⟩ := a
  dsimp only
  obtain ⟨i0, hi, hz0, hz1, hz2⟩ := info_parts rf.infoAct
  have HI := Lib.hid (And.intro hi (And.intro hz0 (And.intro hz1 hz2))); clear hi hz0 hz1 hz2
  obtain ⟨z, hz⟩ : ∃ z, z = w.heap.size := ⟨_, rfl⟩
  obtain ⟨w1, hw1⟩ : ∃ w1, w1 = w.alloc (.cells #[.int .i64 (kind : Int), .string sa, .string sb, .int .i64 (f : Int)] 105) := ⟨_, rfl⟩
  have hk1 : Blk w1 z 105 #[.int .i64 (kind : Int), .string sa, .string sb, .int .i64 (f : Int)] := by rw [hw1, hz]; exact Blk.new _ _ _
  have hb1 : Below w.heap.size w w1 := by rw [hw1]; exact (Below.refl _ _).alloc (Nat.le_refl _) _
  have hzw := hk1.lt
  have hq1 := h.keep (chg_of (P := fun _ => False) hb1) fun _ _ q => q
  have hql1 := hq1.blk.lt
  have hzq : z ≠ q := by have := h.blk.lt; omega
  obtain ⟨A, c, hav, -, hatr⟩ := own_at hq1.arow
  obtain ⟨n, hn⟩ : ∃ n, n = M.acts.length := ⟨_, rfl⟩
  rw [← hn] at hav hla hatr
  have HN := Lib.hid hn.symm; clear hn
  have q0 : ∀ x : Later w1 (fun _ => False), x.1.cell? ⟨q, 4, none⟩ = some (.slice A n c) := fun x => by
    have := (x.2.blk hq1.blk id).cell 4 (v := av) rfl
    rw [hav] at this
    exact this
  have l0 : ∀ x : Later w1 (fun _ => False), x.1.cell? ⟨z, 0, none⟩ = some (.int .i64 (kind : Int)) := fun x => (x.2.blk hk1 id).cell 0 rfl
  have l1 : ∀ x : Later w1 (fun _ => False), x.1.cell? ⟨z, 1, none⟩ = some (.string sa) := fun x => (x.2.blk hk1 id).cell 1 rfl
  have l2 : ∀ x : Later w1 (fun _ => False), x.1.cell? ⟨z, 2, none⟩ = some (.string sb) := fun x => (x.2.blk hk1 id).cell 2 rfl
  have l3 : ∀ x : Later w1 (fun _ => False), x.1.cell? ⟨z, 3, none⟩ = some (.int .i64 (f : Int)) := fun x => (x.2.blk hk1 id).cell 3 rfl
  have HATR := Lib.hid (fun wx (hx : Below w1.heap.size w1 wx) => hatr.below hx (Nat.le_refl _)); clear hatr
  have HQ1 := Lib.hid hq1; clear hq1
  have HK1 := Lib.hid (And.intro hk1 (And.intro hb1 hw)); clear hk1 hb1 hw
  have HAV := Lib.hid hav; clear hav
  have HW := Lib.hid (And.intro hw1 hz); clear hw1 hz
  have hup : ∀ k, G k → k < w.heap.size := h.lt
  have HUP := Lib.hid hup; clear hup h
  have hfin : ∀ (w9 wf : World) (g26 c26 : Nat), Below w1.heap.size w1 w9 → w9.ownsRow w1.heap.size 105 4 (.slice (some ⟨g26, 0, none⟩) (n + 1) c26) (n + 1) (rf.arow M.acts ++ cellsOf (1 * 4) (fun j => ([.int .i64 (kind : Int), .string sa, .string sb, .int .i64 (f : Int)] : List Value).getD j undef)) →
      wf = w9.setCell ⟨q, 4, none⟩ (.slice (some ⟨g26, 0, none⟩) (n + 1) c26) → RefAt wf q { M with acts := M.acts ++ [⟨kind, sa, sb, f⟩] } (dk.grow G w1 wf) fs fv nv sv (.slice (some ⟨g26, 0, none⟩) (n + 1) c26) ∧ Chg w1 wf (fun k => k = q) := fun w9 wf g26 c26 h9 ho e => by
    have hq9 := (chg_of (P := fun _ => False) h9).blk HQ1.out.blk fun h => h
    have hqf := hq9.set 4 (.slice (some ⟨g26, 0, none⟩) (n + 1) c26)
    rw [← e] at hqf
    have hcf : Chg w9 wf (fun k => k = q) := by rw [e]; exact Chg.setCell _ _ _ _
    have hof := hcf.own ho fun k hk e => by subst e; exact hq9.not_row (by decide) ho hk
    have hc1f : Chg w1 wf (fun k => k = q) := (chg_of (P := fun k => k = q) h9).trans hcf fun _ _ h => h
    rw [rf.four_cells, ← rf.arow_append] at hof
    have hl2 : (M.acts ++ [(⟨kind, sa, sb, f⟩ : RAct)]).length = n + 1 := by rw [List.length_append, HN.out]; rfl
    exact ⟨HQ1.out.next hc1f hqf (.inl ⟨rfl, rfl, rfl⟩) (.inl ⟨rfl, rfl⟩) (.inl ⟨rfl, rfl⟩) (.inr (by
      show wf.ownsRow w1.heap.size _ 4 _ (M.acts ++ [(⟨kind, sa, sb, f⟩ : RAct)]).length _
      rw [hl2]
      exact hof)), hc1f⟩
  have HFIN := Lib.hid hfin; clear hfin
  go_enter Try.func57, Try.ntmps57
  go_upto_region 1 with fail
  rw [← HW.out.1, ← HW.out.2]
  have HBw2 := Lib.hid (bdrew (Below.refl w1.heap.size w1) 1)
  have hS0 : later w1 (fun _ => False) w1.drew := later_of ((Chg.refl _ _).drew)
  refine wp_planz 12 (S := fun w0 => ∃ x : Later w1 (fun _ => False), w0 = x.1) (by kernel_rfl) hS0 ?_
  intro hS K5 hK5
  have HS := Lib.hid hS; clear hS hS0
  refine planz_group [true, false, true, true, true, true, false, true] [0, 2, 3, 4, 5, 7] 7 (by dsimp only [sel]) (by rfl) rfl (by kernel_rfl) (by kernel_rfl) (by kernel_rfl) HS.out ?_
  (repeat go_big_quiet_step (fail)); refine wpQuiet_nil ?_
  refine planz_two [false, true] [false, false, false, false, false, false, false, false, true] 1 8 6 (by dsimp only [sel]) (by dsimp only [sel]) (by rfl) (by rfl) rfl (by kernel_rfl) ?_ ?_ <;> intro K1 hK1
  · obtain ⟨w2, hw2⟩ : ∃ x, x = w1.drew := ⟨_, rfl⟩
    replace HBw2 : Hid (Below w1.heap.size w1 w2) := hw2 ▸ HBw2
    rw [← hw2]
    clear hw2
    go_wp2_with fail
    obtain ⟨w3, hw3⟩ : ∃ x, x = w2.alloc (.cells #[] 105) := ⟨_, rfl⟩
    rw [← hw3]
    obtain ⟨g13, hg13⟩ : ∃ g, g = w2.heap.size := ⟨_, rfl⟩
    have ho13 : w3.ownsRow w1.heap.size 105 4 (.slice (some ⟨g13, 0, none⟩) 0 0) 0 [] := by rw [hw3, hg13]; exact World.ownsRow_made w2 #[] 0 (by have := HBw2.out.size; omega) (by unfold maxLen; omega) (by simp)
    have HBw3 := Lib.hid (show Below w1.heap.size w1 w3 from by rw [hw3]; exact HBw2.out.alloc HBw2.out.size _)
    have HBLw3 := Lib.hid (show Below w2.heap.size w2 w3 from by rw [hw3]; exact (Below.refl _ _).alloc (Nat.le_refl _) _)
    rw [← hg13]
    have HO13 := Lib.hid ho13; clear ho13 hw3 hg13
    refine ⟨fun _ => later_of (chg_of HBw3.out), ?_⟩
    refine planz_two [false, false, false, false, false, false, true] [false, false, false, false, false, false, false, false, true] 6 8 5 (by dsimp only [sel]) (by dsimp only [sel]) (by rfl) (by rfl) rfl (by kernel_rfl) ?_ ?_ <;> intro K1 hK1
    · refine wpList_app2 _ rfl (.tmp 5) (.tmp 9) 49 rfl w1.heap.size 105 i0 _ 4 48 Try.underlying49 HI.out.1 HI.out.2.1 HI.out.2.2.1 HI.out.2.2.2 rfl (by decide) _ 0 [] rfl (HO13.out) A n c (fun j => (rf.arow M.acts).getD j undef) rfl (HATR.out _ HBw3.out) (rf.arow_one HN.out) (by unfold maxLen; omega) (by omega) (by have := HBw3.out.size; omega) ?_
      intro v18 w4 hown hg hl
      rw [List.nil_append, rf.arow_all HN.out, Nat.zero_add] at hown
      have HO18 := Lib.hid hown; clear hown
      have hrow13 : ∀ k, (Value.slice (some ⟨g13, 0, none⟩) 0 0).ownBlock = some k → w1.heap.size ≤ k := fun k hk => (HO13.out.lt k hk).1
      have HBw4 := Lib.hid (HBw3.out.grown hg HBw3.out.size hrow13)
      have hg18 : Chg w3 w4 (fun k => k = g13) := (Chg.grown hg).mono fun k _ hk => by
        have hk2 : (Value.slice (some ⟨g13, 0, none⟩) 0 0).ownBlock = some k := hk
        have : g13 = k := by simpa [Value.ownBlock] using hk2
        exact this.symm
      have HG18 := Lib.hid hg18; clear hg hl hrow13 hg18
      go_wp2_with fail
      refine ⟨fun _ => later_of (chg_of HBw4.out), ?_⟩
      refine planz_one [false, false, false, false, false, false, false, false, true] 8 4 (by dsimp only [sel]) (by rfl) rfl (by kernel_rfl) ?_; intro K1 hK1
      go_wp2_with fail
      obtain ⟨w5, hw5⟩ : ∃ x, x = w4.alloc (.cells #[.int .i64 (kind : Int), .string sa, .string sb, .int .i64 (f : Int)] 105) := ⟨_, rfl⟩
      rw [← hw5]
      obtain ⟨g25, hg25⟩ : ∃ g, g = w4.heap.size := ⟨_, rfl⟩
      have hb25 : Blk w5 g25 105 #[.int .i64 (kind : Int), .string sa, .string sb, .int .i64 (f : Int)] := by rw [hw5, hg25]; exact Blk.new _ _ _
      have HBw5 := Lib.hid (show Below w1.heap.size w1 w5 from by rw [hw5]; exact HBw4.out.alloc HBw4.out.size _)
      have HBLw5 := Lib.hid (show Below w4.heap.size w4 w5 from by rw [hw5]; exact (Below.refl _ _).alloc (Nat.le_refl _) _)
      rw [← hg25]
      have HP25 := Lib.hid hb25; clear hb25 hw5 hg25
      refine ⟨fun _ => later_of (chg_of HBw5.out), ?_⟩
      refine planz_one [false, false, false, false, false, false, false, false, false, true] 9 3 (by dsimp only [sel]) (by rfl) rfl (by kernel_rfl) ?_; intro K1 hK1
      refine wpList_app2 _ rfl (.tmp 10) (.tmp 12) 49 rfl w1.heap.size 105 i0 _ 4 48 Try.underlying49 HI.out.1 HI.out.2.1 HI.out.2.2.1 HI.out.2.2.2 rfl (by decide) _ n (rf.arow M.acts) rfl (own_below HO18.out HBLw5.out) (some ⟨g25, 0, none⟩) 1 1 (fun j => (([.int .i64 (kind : Int), .string sa, .string sb, .int .i64 (f : Int)]) : List Value).getD j undef) rfl (rf.at_four (HP25.out)) (rf.four_one kind sa sb f) (by unfold maxLen; omega) (by omega) (by have := HBw5.out.size; omega) ?_
      intro v26 w9 hown hg hl
      have HO26 := Lib.hid hown; clear hown
      have HB9 := Lib.hid (HBw5.out.grown hg HBw5.out.size fun k hk => ((own_below HO18.out HBLw5.out).lt k hk).1); clear hg hl
      obtain ⟨g26, c26, rfl, -, -, -, -, -⟩ := own_pos4 HO26.out (Nat.succ_pos _)
      have f1 := ((chg_of (P := fun _ => False) HB9.out).blk HQ1.out.blk fun h => h).cell 4 rfl
      have ff := fun j => ((chg_of (P := fun _ => False) HB9.out).blk HQ1.out.blk fun h => h).frozen j
      have fl := ((chg_of (P := fun _ => False) HB9.out).blk HQ1.out.blk fun h => h).lt
      go_wp2_with fail
      refine ⟨fun _ => later_of (chg_of HB9.out), ?_⟩
      go_simp
      refine planz_one [false, false, false, false, false, false, false, false, false, false, true] 10 2 (by dsimp only [sel]) (by rfl) rfl (by kernel_rfl) ?_; intro K1 hK1; go_wp2_with fail
      refine ⟨fun _ => later_of (chg_of HB9.out), ?_⟩
      refine planz_one [false, false, false, false, false, false, false, false, false, false, false, true] 11 1 (by dsimp only [sel]) (by rfl) rfl (by kernel_rfl) ?_; intro K1 hK1; go_wp2_with fail
      refine ⟨fun _ => later_of (chg_of HB9.out), ?_⟩
      refine planz_one [false, false, false, false, false, false, false, false, false, false, false, false, true] 12 0 (by dsimp only [sel]) (by rfl) rfl (by kernel_rfl) ?_; intro K1 hK1; go_wp2_with fail
      refine ⟨fun h => absurd rfl h, ?_⟩
      refine wp_planz_end (by kernel_rfl) ?_
      obtain ⟨wf, hwf⟩ : ∃ x, x = w9.setCell ⟨q, 4, none⟩ (.slice (some ⟨g26, 0, none⟩) (n + 1) c26) := ⟨_, rfl⟩
      have HP := Lib.hid (HFIN.out w9 wf _ _ HB9.out HO26.out hwf)
      rw [← hwf]
      clear hwf f1 ff fl q0 l0 l1 l2 l3 HS
      refine hK5 _ _ ?_
      clear hK5
      have hzb := (HP.out.2.blk HK1.out.1 hzq)
      have hnat := HP.out.1.now_at
      obtain ⟨A2, c2, hnv, hat2⟩ := hnat
      have hat2 : rf.NAt wf A2 M.now := hat2
      have hnv : nv = .slice A2 M.now.length c2 := hnv
      have hap := rf.apply_any A2 c2 M.now ⟨kind, sa, sb, f⟩ wf.drew (hat2.drew 1) (by omega) HK1.out.2.2.rise
      dsimp only at hap
      have p0 : ∀ x : Later wf (fun _ => False), x.1.cell? ⟨q, 2, none⟩ = some (.slice A2 M.now.length c2) := fun x => by
        have := (x.2.blk HP.out.1.blk id).cell 2 (v := nv) rfl
        rw [hnv] at this
        exact this
      have m0 : ∀ x : Later wf (fun _ => False), x.1.cell? ⟨z, 0, none⟩ = some (.int .i64 (kind : Int)) := fun x => (x.2.blk hzb id).cell 0 rfl
      have m1 : ∀ x : Later wf (fun _ => False), x.1.cell? ⟨z, 1, none⟩ = some (.string sa) := fun x => (x.2.blk hzb id).cell 1 rfl
      have m2 : ∀ x : Later wf (fun _ => False), x.1.cell? ⟨z, 2, none⟩ = some (.string sb) := fun x => (x.2.blk hzb id).cell 2 rfl
      have m3 : ∀ x : Later wf (fun _ => False), x.1.cell? ⟨z, 3, none⟩ = some (.int .i64 (f : Int)) := fun x => (x.2.blk hzb id).cell 3 rfl
      have n0 : wf.drew.cell? ⟨z, 0, none⟩ = some (.int .i64 (kind : Int)) := hzb.cell 0 rfl
      have n1 : wf.drew.cell? ⟨z, 1, none⟩ = some (.string sa) := hzb.cell 1 rfl
      have n2 : wf.drew.cell? ⟨z, 2, none⟩ = some (.string sb) := hzb.cell 2 rfl
      have n3 : wf.drew.cell? ⟨z, 3, none⟩ = some (.int .i64 (f : Int)) := hzb.cell 3 rfl
      have hqlf := HP.out.1.blk.lt
      have hzlf := hzb.lt
      have HAPP := Lib.hid (And.intro hap hnv); clear hap hat2 hnv
      obtain ⟨nn, hnn⟩ : ∃ nn, nn = M.now.length := ⟨_, rfl⟩
      rw [← hnn] at p0 HAPP
      have HNN := Lib.hid hnn; clear hnn
      go_upto_region 2 with fail
      have hS0 : later wf (fun _ => False) wf.drew := later_of ((Chg.refl _ _).drew)
      refine wp_planz 9 (S := fun w0 => ∃ x : Later wf (fun _ => False), w0 = x.1) (by kernel_rfl) hS0 ?_
      intro hS K6 hK6
      have HS := Lib.hid hS; clear hS hS0
      refine planz_group [true, true, true, true, true] [0, 1, 2, 3, 4] 5 (by dsimp only [sel]) (by rfl) rfl (by kernel_rfl) (by kernel_rfl) (by kernel_rfl) HS.out ?_
      (repeat go_big_quiet_step (fail)); refine wpQuiet_nil ?_
      refine planz_one [false, false, false, false, false, true] 5 4 (by dsimp only [sel]) (by rfl) rfl (by kernel_rfl) ?_; intro K1 hK1; go_wp2_with fail
      refine ⟨by first | exact HS.out | exact fun _ => HS.out, ?_⟩
      refine planz_one [false, false, false, false, false, false, true] 6 3 (by dsimp only [sel]) (by rfl) rfl (by kernel_rfl) ?_; intro K1 hK1; go_wp2_with fail
      refine HAPP.out.1.mono ?_
      rintro e w10 ⟨v, rfl, h1, h2⟩
      have hc10 : Chg wf w10 (fun _ => False) := ((Chg.refl wf (fun _ => False)).drew).trans (chg_of h2) fun _ _ q => q
      have hq10 := hc10.blk HP.out.1.blk id
      have t2 := hq10.cell 2 (v := nv) rfl
      rw [HAPP.out.2] at t2
      have tz := hq10.frozen 2
      have tl := hq10.lt
      obtain ⟨wg, hwg⟩ : ∃ x, x = w10.setCell ⟨q, 2, none⟩ v := ⟨_, rfl⟩
      have hqg := hq10.set 2 v
      rw [← hwg] at hqg
      have hcg : Chg w10 wg (fun k => k = q) := by rw [hwg]; exact Chg.setCell _ _ _ _
      have hog := hcg.own h1 fun k hk e => by subst e; exact hq10.not_row (by decide) h1 hk
      have hcfg : Chg wf wg (fun k => k = q) := (hc10.mono fun _ _ q => q.elim).trans hcg fun _ _ q => q
      have hnx : RefAt wg q (M.lead ⟨kind, sa, sb, f⟩) (dk.grow (dk.grow G w1 wf) wf wg) fs fv v sv (.slice (some ⟨g26, 0, none⟩) (n + 1) c26) := HP.out.1.next hcfg hqg (.inl ⟨rfl, rfl, rfl⟩) (.inr hog) (.inl ⟨rfl, rfl⟩) (.inl ⟨rfl, rfl⟩)
      have hdone : RefD wg q (M.lead ⟨kind, sa, sb, f⟩) (dk.grow G w wg) ∧ Chg w wg (fun k => k = q) := by
        have hs1 := HK1.out.2.1.size
        have hsf := HP.out.2.size
        refine ⟨⟨_, _, _, _, _, hnx.wide (fun k hk => ⟨?_, hk.2⟩) fun _ hk => hk.2⟩, ((chg_of (P := fun k => k = q) HK1.out.2.1).trans HP.out.2 fun _ _ q => q).trans hcfg fun _ _ q => q⟩
        rcases hk.1 with hk | hk
        · exact hk.1.elim .inl fun q => .inr (by omega)
        · exact .inr (by omega)
      obtain ⟨A10, c10, hv10, -⟩ := own_at h1
      have HDONE := Lib.hid hdone
      have HC10 := Lib.hid hc10; clear hdone hnx hcfg hog hcg hqg hc10 hq10 h1 h2
      subst hv10
      obtain ⟨mm, hmm⟩ : ∃ mm, mm = (rd.apply M.now ⟨kind, sa, sb, f⟩).length := ⟨_, rfl⟩
      rw [← hmm] at hwg ⊢
      clear hmm
      go_wp2_with fail
      refine ⟨by first | exact later_of HC10.out | exact fun _ => later_of HC10.out, ?_⟩
      refine planz_one [false, false, false, false, false, false, false, true] 7 2 (by dsimp only [sel]) (by rfl) rfl (by kernel_rfl) ?_; intro K1 hK1; go_wp2_with fail
      refine ⟨by first | exact later_of HC10.out | exact fun _ => later_of HC10.out, ?_⟩
      refine planz_one [false, false, false, false, false, false, false, false, true] 8 1 (by dsimp only [sel]) (by rfl) rfl (by kernel_rfl) ?_; intro K1 hK1; go_wp2_with fail
      refine ⟨by first | exact later_of HC10.out | exact fun _ => later_of HC10.out, ?_⟩
      refine planz_one [false, false, false, false, false, false, false, false, false, true] 9 0 (by dsimp only [sel]) (by rfl) rfl (by kernel_rfl) ?_; intro K1 hK1; go_wp2_with fail
      refine ⟨by first | exact fun h => absurd rfl h | trivial, ?_⟩
      refine wp_planz_end (by kernel_rfl) ?_
      rw [← hwg]
      refine hK6 _ _ ?_
      clear hK6
      go_end0
      exact ⟨rfl, HDONE.out⟩
    · go_wp2_with fail
      obtain ⟨w4, hw4⟩ : ∃ x, x = w3.alloc (.cells #[.int .i64 (kind : Int), .string sa, .string sb, .int .i64 (f : Int)] 105) := ⟨_, rfl⟩
      rw [← hw4]
      obtain ⟨g25, hg25⟩ : ∃ g, g = w3.heap.size := ⟨_, rfl⟩
      have hb25 : Blk w4 g25 105 #[.int .i64 (kind : Int), .string sa, .string sb, .int .i64 (f : Int)] := by rw [hw4, hg25]; exact Blk.new _ _ _
      have HBw4 := Lib.hid (show Below w1.heap.size w1 w4 from by rw [hw4]; exact HBw3.out.alloc HBw3.out.size _)
      have HBLw4 := Lib.hid (show Below w3.heap.size w3 w4 from by rw [hw4]; exact (Below.refl _ _).alloc (Nat.le_refl _) _)
      have hne : g13 ≠ g25 := by have := (HO13.out.lt g13 rfl).2; omega
      rw [← hg25]
      have HP25 := Lib.hid hb25; clear hb25 hw4 hg25
      refine ⟨fun _ => later_of (chg_of HBw4.out), ?_⟩
      refine planz_one [false, false, false, false, false, false, true] 6 4 (by dsimp only [sel]) (by rfl) rfl (by kernel_rfl) ?_; intro K1 hK1
      refine wpList_app2 _ rfl (.tmp 5) (.tmp 9) 49 rfl w1.heap.size 105 i0 _ 4 48 Try.underlying49 HI.out.1 HI.out.2.1 HI.out.2.2.1 HI.out.2.2.2 rfl (by decide) _ 0 [] rfl (own_below HO13.out HBLw4.out) A n c (fun j => (rf.arow M.acts).getD j undef) rfl (HATR.out _ HBw4.out) (rf.arow_one HN.out) (by unfold maxLen; omega) (by omega) (by have := HBw4.out.size; omega) ?_
      intro v18 w5 hown hg hl
      rw [List.nil_append, rf.arow_all HN.out, Nat.zero_add] at hown
      have HO18 := Lib.hid hown; clear hown
      have hrow13 : ∀ k, (Value.slice (some ⟨g13, 0, none⟩) 0 0).ownBlock = some k → w1.heap.size ≤ k := fun k hk => (HO13.out.lt k hk).1
      have HBw5 := Lib.hid (HBw4.out.grown hg HBw4.out.size hrow13)
      have hg18 : Chg w4 w5 (fun k => k = g13) := (Chg.grown hg).mono fun k _ hk => by
        have hk2 : (Value.slice (some ⟨g13, 0, none⟩) 0 0).ownBlock = some k := hk
        have : g13 = k := by simpa [Value.ownBlock] using hk2
        exact this.symm
      have HG18 := Lib.hid hg18; clear hg hl hrow13 hg18
      go_wp2_with fail
      refine ⟨fun _ => later_of (chg_of HBw5.out), ?_⟩
      refine planz_one [false, false, false, false, false, false, false, false, false, true] 9 3 (by dsimp only [sel]) (by rfl) rfl (by kernel_rfl) ?_; intro K1 hK1
      refine wpList_app2 _ rfl (.tmp 10) (.tmp 12) 49 rfl w1.heap.size 105 i0 _ 4 48 Try.underlying49 HI.out.1 HI.out.2.1 HI.out.2.2.1 HI.out.2.2.2 rfl (by decide) _ n (rf.arow M.acts) rfl (HO18.out) (some ⟨g25, 0, none⟩) 1 1 (fun j => (([.int .i64 (kind : Int), .string sa, .string sb, .int .i64 (f : Int)]) : List Value).getD j undef) rfl (rf.at_four (HG18.out.blk HP25.out (fun h => hne h.symm))) (rf.four_one kind sa sb f) (by unfold maxLen; omega) (by omega) (by have := HBw5.out.size; omega) ?_
      intro v26 w9 hown hg hl
      have HO26 := Lib.hid hown; clear hown
      have HB9 := Lib.hid (HBw5.out.grown hg HBw5.out.size fun k hk => ((HO18.out).lt k hk).1); clear hg hl
      obtain ⟨g26, c26, rfl, -, -, -, -, -⟩ := own_pos4 HO26.out (Nat.succ_pos _)
      have f1 := ((chg_of (P := fun _ => False) HB9.out).blk HQ1.out.blk fun h => h).cell 4 rfl
      have ff := fun j => ((chg_of (P := fun _ => False) HB9.out).blk HQ1.out.blk fun h => h).frozen j
      have fl := ((chg_of (P := fun _ => False) HB9.out).blk HQ1.out.blk fun h => h).lt
      go_wp2_with fail
      refine ⟨fun _ => later_of (chg_of HB9.out), ?_⟩
      go_simp
      refine planz_one [false, false, false, false, false, false, false, false, false, false, true] 10 2 (by dsimp only [sel]) (by rfl) rfl (by kernel_rfl) ?_; intro K1 hK1; go_wp2_with fail
      refine ⟨fun _ => later_of (chg_of HB9.out), ?_⟩
      refine planz_one [false, false, false, false, false, false, false, false, false, false, false, true] 11 1 (by dsimp only [sel]) (by rfl) rfl (by kernel_rfl) ?_; intro K1 hK1; go_wp2_with fail
      refine ⟨fun _ => later_of (chg_of HB9.out), ?_⟩
      refine planz_one [false, false, false, false, false, false, false, false, false, false, false, false, true] 12 0 (by dsimp only [sel]) (by rfl) rfl (by kernel_rfl) ?_; intro K1 hK1; go_wp2_with fail
      refine ⟨fun h => absurd rfl h, ?_⟩
      refine wp_planz_end (by kernel_rfl) ?_
      obtain ⟨wf, hwf⟩ : ∃ x, x = w9.setCell ⟨q, 4, none⟩ (.slice (some ⟨g26, 0, none⟩) (n + 1) c26) := ⟨_, rfl⟩
      have HP := Lib.hid (HFIN.out w9 wf _ _ HB9.out HO26.out hwf)
      rw [← hwf]
      clear hwf f1 ff fl q0 l0 l1 l2 l3 HS
      refine hK5 _ _ ?_
      clear hK5
      have hzb := (HP.out.2.blk HK1.out.1 hzq)
      have hnat := HP.out.1.now_at
      obtain ⟨A2, c2, hnv, hat2⟩ := hnat
      have hat2 : rf.NAt wf A2 M.now := hat2
      have hnv : nv = .slice A2 M.now.length c2 := hnv
      have hap := rf.apply_any A2 c2 M.now ⟨kind, sa, sb, f⟩ wf.drew (hat2.drew 1) (by omega) HK1.out.2.2.rise
      dsimp only at hap
      have p0 : ∀ x : Later wf (fun _ => False), x.1.cell? ⟨q, 2, none⟩ = some (.slice A2 M.now.length c2) := fun x => by
        have := (x.2.blk HP.out.1.blk id).cell 2 (v := nv) rfl
        rw [hnv] at this
        exact this
      have m0 : ∀ x : Later wf (fun _ => False), x.1.cell? ⟨z, 0, none⟩ = some (.int .i64 (kind : Int)) := fun x => (x.2.blk hzb id).cell 0 rfl
      have m1 : ∀ x : Later wf (fun _ => False), x.1.cell? ⟨z, 1, none⟩ = some (.string sa) := fun x => (x.2.blk hzb id).cell 1 rfl
      have m2 : ∀ x : Later wf (fun _ => False), x.1.cell? ⟨z, 2, none⟩ = some (.string sb) := fun x => (x.2.blk hzb id).cell 2 rfl
      have m3 : ∀ x : Later wf (fun _ => False), x.1.cell? ⟨z, 3, none⟩ = some (.int .i64 (f : Int)) := fun x => (x.2.blk hzb id).cell 3 rfl
      have n0 : wf.drew.cell? ⟨z, 0, none⟩ = some (.int .i64 (kind : Int)) := hzb.cell 0 rfl
      have n1 : wf.drew.cell? ⟨z, 1, none⟩ = some (.string sa) := hzb.cell 1 rfl
      have n2 : wf.drew.cell? ⟨z, 2, none⟩ = some (.string sb) := hzb.cell 2 rfl
      have n3 : wf.drew.cell? ⟨z, 3, none⟩ = some (.int .i64 (f : Int)) := hzb.cell 3 rfl
      have hqlf := HP.out.1.blk.lt
      have hzlf := hzb.lt
      have HAPP := Lib.hid (And.intro hap hnv); clear hap hat2 hnv
      obtain ⟨nn, hnn⟩ : ∃ nn, nn = M.now.length := ⟨_, rfl⟩
      rw [← hnn] at p0 HAPP
      have HNN := Lib.hid hnn; clear hnn
      go_upto_region 2 with fail
      have hS0 : later wf (fun _ => False) wf.drew := later_of ((Chg.refl _ _).drew)
      refine wp_planz 9 (S := fun w0 => ∃ x : Later wf (fun _ => False), w0 = x.1) (by kernel_rfl) hS0 ?_
      intro hS K6 hK6
      have HS := Lib.hid hS; clear hS hS0
      refine planz_group [true, true, true, true, true] [0, 1, 2, 3, 4] 5 (by dsimp only [sel]) (by rfl) rfl (by kernel_rfl) (by kernel_rfl) (by kernel_rfl) HS.out ?_
      (repeat go_big_quiet_step (fail)); refine wpQuiet_nil ?_
      refine planz_one [false, false, false, false, false, true] 5 4 (by dsimp only [sel]) (by rfl) rfl (by kernel_rfl) ?_; intro K1 hK1; go_wp2_with fail
      refine ⟨by first | exact HS.out | exact fun _ => HS.out, ?_⟩
      refine planz_one [false, false, false, false, false, false, true] 6 3 (by dsimp only [sel]) (by rfl) rfl (by kernel_rfl) ?_; intro K1 hK1; go_wp2_with fail
      refine HAPP.out.1.mono ?_
      rintro e w10 ⟨v, rfl, h1, h2⟩
      have hc10 : Chg wf w10 (fun _ => False) := ((Chg.refl wf (fun _ => False)).drew).trans (chg_of h2) fun _ _ q => q
      have hq10 := hc10.blk HP.out.1.blk id
      have t2 := hq10.cell 2 (v := nv) rfl
      rw [HAPP.out.2] at t2
      have tz := hq10.frozen 2
      have tl := hq10.lt
      obtain ⟨wg, hwg⟩ : ∃ x, x = w10.setCell ⟨q, 2, none⟩ v := ⟨_, rfl⟩
      have hqg := hq10.set 2 v
      rw [← hwg] at hqg
      have hcg : Chg w10 wg (fun k => k = q) := by rw [hwg]; exact Chg.setCell _ _ _ _
      have hog := hcg.own h1 fun k hk e => by subst e; exact hq10.not_row (by decide) h1 hk
      have hcfg : Chg wf wg (fun k => k = q) := (hc10.mono fun _ _ q => q.elim).trans hcg fun _ _ q => q
      have hnx : RefAt wg q (M.lead ⟨kind, sa, sb, f⟩) (dk.grow (dk.grow G w1 wf) wf wg) fs fv v sv (.slice (some ⟨g26, 0, none⟩) (n + 1) c26) := HP.out.1.next hcfg hqg (.inl ⟨rfl, rfl, rfl⟩) (.inr hog) (.inl ⟨rfl, rfl⟩) (.inl ⟨rfl, rfl⟩)
      have hdone : RefD wg q (M.lead ⟨kind, sa, sb, f⟩) (dk.grow G w wg) ∧ Chg w wg (fun k => k = q) := by
        have hs1 := HK1.out.2.1.size
        have hsf := HP.out.2.size
        refine ⟨⟨_, _, _, _, _, hnx.wide (fun k hk => ⟨?_, hk.2⟩) fun _ hk => hk.2⟩, ((chg_of (P := fun k => k = q) HK1.out.2.1).trans HP.out.2 fun _ _ q => q).trans hcfg fun _ _ q => q⟩
        rcases hk.1 with hk | hk
        · exact hk.1.elim .inl fun q => .inr (by omega)
        · exact .inr (by omega)
      obtain ⟨A10, c10, hv10, -⟩ := own_at h1
      have HDONE := Lib.hid hdone
      have HC10 := Lib.hid hc10; clear hdone hnx hcfg hog hcg hqg hc10 hq10 h1 h2
      subst hv10
      obtain ⟨mm, hmm⟩ : ∃ mm, mm = (rd.apply M.now ⟨kind, sa, sb, f⟩).length := ⟨_, rfl⟩
      rw [← hmm] at hwg ⊢
      clear hmm
      go_wp2_with fail
      refine ⟨by first | exact later_of HC10.out | exact fun _ => later_of HC10.out, ?_⟩
      refine planz_one [false, false, false, false, false, false, false, true] 7 2 (by dsimp only [sel]) (by rfl) rfl (by kernel_rfl) ?_; intro K1 hK1; go_wp2_with fail
      refine ⟨by first | exact later_of HC10.out | exact fun _ => later_of HC10.out, ?_⟩
      refine planz_one [false, false, false, false, false, false, false, false, true] 8 1 (by dsimp only [sel]) (by rfl) rfl (by kernel_rfl) ?_; intro K1 hK1; go_wp2_with fail
      refine ⟨by first | exact later_of HC10.out | exact fun _ => later_of HC10.out, ?_⟩
      refine planz_one [false, false, false, false, false, false, false, false, false, true] 9 0 (by dsimp only [sel]) (by rfl) rfl (by kernel_rfl) ?_; intro K1 hK1; go_wp2_with fail
      refine ⟨by first | exact fun h => absurd rfl h | trivial, ?_⟩
      refine wp_planz_end (by kernel_rfl) ?_
      rw [← hwg]
      refine hK6 _ _ ?_
      clear hK6
      go_end0
      exact ⟨rfl, HDONE.out⟩
  · obtain ⟨w2, hw2⟩ : ∃ x, x = w1.drew := ⟨_, rfl⟩
    replace HBw2 : Hid (Below w1.heap.size w1 w2) := hw2 ▸ HBw2
    rw [← hw2]
    clear hw2
    go_wp2_with fail
    obtain ⟨w3, hw3⟩ : ∃ x, x = w2.alloc (.cells #[.int .i64 (kind : Int), .string sa, .string sb, .int .i64 (f : Int)] 105) := ⟨_, rfl⟩
    rw [← hw3]
    obtain ⟨g25, hg25⟩ : ∃ g, g = w2.heap.size := ⟨_, rfl⟩
    have hb25 : Blk w3 g25 105 #[.int .i64 (kind : Int), .string sa, .string sb, .int .i64 (f : Int)] := by rw [hw3, hg25]; exact Blk.new _ _ _
    have HBw3 := Lib.hid (show Below w1.heap.size w1 w3 from by rw [hw3]; exact HBw2.out.alloc HBw2.out.size _)
    have HBLw3 := Lib.hid (show Below w2.heap.size w2 w3 from by rw [hw3]; exact (Below.refl _ _).alloc (Nat.le_refl _) _)
    rw [← hg25]
    have HP25 := Lib.hid hb25; clear hb25 hw3 hg25
    refine ⟨fun _ => later_of (chg_of HBw3.out), ?_⟩
    refine planz_one [false, true] 1 5 (by dsimp only [sel]) (by rfl) rfl (by kernel_rfl) ?_; intro K1 hK1
    go_wp2_with fail
    obtain ⟨w4, hw4⟩ : ∃ x, x = w3.alloc (.cells #[] 105) := ⟨_, rfl⟩
    rw [← hw4]
    obtain ⟨g13, hg13⟩ : ∃ g, g = w3.heap.size := ⟨_, rfl⟩
    have ho13 : w4.ownsRow w1.heap.size 105 4 (.slice (some ⟨g13, 0, none⟩) 0 0) 0 [] := by rw [hw4, hg13]; exact World.ownsRow_made w3 #[] 0 (by have := HBw3.out.size; omega) (by unfold maxLen; omega) (by simp)
    have HBw4 := Lib.hid (show Below w1.heap.size w1 w4 from by rw [hw4]; exact HBw3.out.alloc HBw3.out.size _)
    have HBLw4 := Lib.hid (show Below w3.heap.size w3 w4 from by rw [hw4]; exact (Below.refl _ _).alloc (Nat.le_refl _) _)
    have hne : g13 ≠ g25 := by have := HP25.out.lt; omega
    rw [← hg13]
    have HO13 := Lib.hid ho13; clear ho13 hw4 hg13
    refine ⟨fun _ => later_of (chg_of HBw4.out), ?_⟩
    refine planz_one [false, false, false, false, false, false, true] 6 4 (by dsimp only [sel]) (by rfl) rfl (by kernel_rfl) ?_; intro K1 hK1
    refine wpList_app2 _ rfl (.tmp 5) (.tmp 9) 49 rfl w1.heap.size 105 i0 _ 4 48 Try.underlying49 HI.out.1 HI.out.2.1 HI.out.2.2.1 HI.out.2.2.2 rfl (by decide) _ 0 [] rfl (HO13.out) A n c (fun j => (rf.arow M.acts).getD j undef) rfl (HATR.out _ HBw4.out) (rf.arow_one HN.out) (by unfold maxLen; omega) (by omega) (by have := HBw4.out.size; omega) ?_
    intro v18 w5 hown hg hl
    rw [List.nil_append, rf.arow_all HN.out, Nat.zero_add] at hown
    have HO18 := Lib.hid hown; clear hown
    have hrow13 : ∀ k, (Value.slice (some ⟨g13, 0, none⟩) 0 0).ownBlock = some k → w1.heap.size ≤ k := fun k hk => (HO13.out.lt k hk).1
    have HBw5 := Lib.hid (HBw4.out.grown hg HBw4.out.size hrow13)
    have hg18 : Chg w4 w5 (fun k => k = g13) := (Chg.grown hg).mono fun k _ hk => by
      have hk2 : (Value.slice (some ⟨g13, 0, none⟩) 0 0).ownBlock = some k := hk
      have : g13 = k := by simpa [Value.ownBlock] using hk2
      exact this.symm
    have HG18 := Lib.hid hg18; clear hg hl hrow13 hg18
    go_wp2_with fail
    refine ⟨fun _ => later_of (chg_of HBw5.out), ?_⟩
    refine planz_one [false, false, false, false, false, false, false, false, false, true] 9 3 (by dsimp only [sel]) (by rfl) rfl (by kernel_rfl) ?_; intro K1 hK1
    refine wpList_app2 _ rfl (.tmp 10) (.tmp 12) 49 rfl w1.heap.size 105 i0 _ 4 48 Try.underlying49 HI.out.1 HI.out.2.1 HI.out.2.2.1 HI.out.2.2.2 rfl (by decide) _ n (rf.arow M.acts) rfl (HO18.out) (some ⟨g25, 0, none⟩) 1 1 (fun j => (([.int .i64 (kind : Int), .string sa, .string sb, .int .i64 (f : Int)]) : List Value).getD j undef) rfl (rf.at_four (HG18.out.blk ((chg_of (P := fun _ => False) HBLw4.out).blk HP25.out fun h => h) (fun h => hne h.symm))) (rf.four_one kind sa sb f) (by unfold maxLen; omega) (by omega) (by have := HBw5.out.size; omega) ?_
    intro v26 w9 hown hg hl
    have HO26 := Lib.hid hown; clear hown
    have HB9 := Lib.hid (HBw5.out.grown hg HBw5.out.size fun k hk => ((HO18.out).lt k hk).1); clear hg hl
    obtain ⟨g26, c26, rfl, -, -, -, -, -⟩ := own_pos4 HO26.out (Nat.succ_pos _)
    have f1 := ((chg_of (P := fun _ => False) HB9.out).blk HQ1.out.blk fun h => h).cell 4 rfl
    have ff := fun j => ((chg_of (P := fun _ => False) HB9.out).blk HQ1.out.blk fun h => h).frozen j
    have fl := ((chg_of (P := fun _ => False) HB9.out).blk HQ1.out.blk fun h => h).lt
    go_wp2_with fail
    refine ⟨fun _ => later_of (chg_of HB9.out), ?_⟩
    go_simp
    refine planz_one [false, false, false, false, false, false, false, false, false, false, true] 10 2 (by dsimp only [sel]) (by rfl) rfl (by kernel_rfl) ?_; intro K1 hK1; go_wp2_with fail
    refine ⟨fun _ => later_of (chg_of HB9.out), ?_⟩
    refine planz_one [false, false, false, false, false, false, false, false, false, false, false, true] 11 1 (by dsimp only [sel]) (by rfl) rfl (by kernel_rfl) ?_; intro K1 hK1; go_wp2_with fail
    refine ⟨fun _ => later_of (chg_of HB9.out), ?_⟩
    refine planz_one [false, false, false, false, false, false, false, false, false, false, false, false, true] 12 0 (by dsimp only [sel]) (by rfl) rfl (by kernel_rfl) ?_; intro K1 hK1; go_wp2_with fail
    refine ⟨fun h => absurd rfl h, ?_⟩
    refine wp_planz_end (by kernel_rfl) ?_
    obtain ⟨wf, hwf⟩ : ∃ x, x = w9.setCell ⟨q, 4, none⟩ (.slice (some ⟨g26, 0, none⟩) (n + 1) c26) := ⟨_, rfl⟩
    have HP := Lib.hid (HFIN.out w9 wf _ _ HB9.out HO26.out hwf)
    rw [← hwf]
    clear hwf f1 ff fl q0 l0 l1 l2 l3 HS
    refine hK5 _ _ ?_
    clear hK5
    have hzb := (HP.out.2.blk HK1.out.1 hzq)
    have hnat := HP.out.1.now_at
    obtain ⟨A2, c2, hnv, hat2⟩ := hnat
    have hat2 : rf.NAt wf A2 M.now := hat2
    have hnv : nv = .slice A2 M.now.length c2 := hnv
    have hap := rf.apply_any A2 c2 M.now ⟨kind, sa, sb, f⟩ wf.drew (hat2.drew 1) (by omega) HK1.out.2.2.rise
    dsimp only at hap
    have p0 : ∀ x : Later wf (fun _ => False), x.1.cell? ⟨q, 2, none⟩ = some (.slice A2 M.now.length c2) := fun x => by
      have := (x.2.blk HP.out.1.blk id).cell 2 (v := nv) rfl
      rw [hnv] at this
      exact this
    have m0 : ∀ x : Later wf (fun _ => False), x.1.cell? ⟨z, 0, none⟩ = some (.int .i64 (kind : Int)) := fun x => (x.2.blk hzb id).cell 0 rfl
    have m1 : ∀ x : Later wf (fun _ => False), x.1.cell? ⟨z, 1, none⟩ = some (.string sa) := fun x => (x.2.blk hzb id).cell 1 rfl
    have m2 : ∀ x : Later wf (fun _ => False), x.1.cell? ⟨z, 2, none⟩ = some (.string sb) := fun x => (x.2.blk hzb id).cell 2 rfl
    have m3 : ∀ x : Later wf (fun _ => False), x.1.cell? ⟨z, 3, none⟩ = some (.int .i64 (f : Int)) := fun x => (x.2.blk hzb id).cell 3 rfl
    have n0 : wf.drew.cell? ⟨z, 0, none⟩ = some (.int .i64 (kind : Int)) := hzb.cell 0 rfl
    have n1 : wf.drew.cell? ⟨z, 1, none⟩ = some (.string sa) := hzb.cell 1 rfl
    have n2 : wf.drew.cell? ⟨z, 2, none⟩ = some (.string sb) := hzb.cell 2 rfl
    have n3 : wf.drew.cell? ⟨z, 3, none⟩ = some (.int .i64 (f : Int)) := hzb.cell 3 rfl
    have hqlf := HP.out.1.blk.lt
    have hzlf := hzb.lt
    have HAPP := Lib.hid (And.intro hap hnv); clear hap hat2 hnv
    obtain ⟨nn, hnn⟩ : ∃ nn, nn = M.now.length := ⟨_, rfl⟩
    rw [← hnn] at p0 HAPP
    have HNN := Lib.hid hnn; clear hnn
    go_upto_region 2 with fail
    have hS0 : later wf (fun _ => False) wf.drew := later_of ((Chg.refl _ _).drew)
    refine wp_planz 9 (S := fun w0 => ∃ x : Later wf (fun _ => False), w0 = x.1) (by kernel_rfl) hS0 ?_
    intro hS K6 hK6
    have HS := Lib.hid hS; clear hS hS0
    refine planz_group [true, true, true, true, true] [0, 1, 2, 3, 4] 5 (by dsimp only [sel]) (by rfl) rfl (by kernel_rfl) (by kernel_rfl) (by kernel_rfl) HS.out ?_
    (repeat go_big_quiet_step (fail)); refine wpQuiet_nil ?_
    refine planz_one [false, false, false, false, false, true] 5 4 (by dsimp only [sel]) (by rfl) rfl (by kernel_rfl) ?_; intro K1 hK1; go_wp2_with fail
    refine ⟨by first | exact HS.out | exact fun _ => HS.out, ?_⟩
    refine planz_one [false, false, false, false, false, false, true] 6 3 (by dsimp only [sel]) (by rfl) rfl (by kernel_rfl) ?_; intro K1 hK1; go_wp2_with fail
    refine HAPP.out.1.mono ?_
    rintro e w10 ⟨v, rfl, h1, h2⟩
    have hc10 : Chg wf w10 (fun _ => False) := ((Chg.refl wf (fun _ => False)).drew).trans (chg_of h2) fun _ _ q => q
    have hq10 := hc10.blk HP.out.1.blk id
    have t2 := hq10.cell 2 (v := nv) rfl
    rw [HAPP.out.2] at t2
    have tz := hq10.frozen 2
    have tl := hq10.lt
    obtain ⟨wg, hwg⟩ : ∃ x, x = w10.setCell ⟨q, 2, none⟩ v := ⟨_, rfl⟩
    have hqg := hq10.set 2 v
    rw [← hwg] at hqg
    have hcg : Chg w10 wg (fun k => k = q) := by rw [hwg]; exact Chg.setCell _ _ _ _
    have hog := hcg.own h1 fun k hk e => by subst e; exact hq10.not_row (by decide) h1 hk
    have hcfg : Chg wf wg (fun k => k = q) := (hc10.mono fun _ _ q => q.elim).trans hcg fun _ _ q => q
    have hnx : RefAt wg q (M.lead ⟨kind, sa, sb, f⟩) (dk.grow (dk.grow G w1 wf) wf wg) fs fv v sv (.slice (some ⟨g26, 0, none⟩) (n + 1) c26) := HP.out.1.next hcfg hqg (.inl ⟨rfl, rfl, rfl⟩) (.inr hog) (.inl ⟨rfl, rfl⟩) (.inl ⟨rfl, rfl⟩)
    have hdone : RefD wg q (M.lead ⟨kind, sa, sb, f⟩) (dk.grow G w wg) ∧ Chg w wg (fun k => k = q) := by
      have hs1 := HK1.out.2.1.size
      have hsf := HP.out.2.size
      refine ⟨⟨_, _, _, _, _, hnx.wide (fun k hk => ⟨?_, hk.2⟩) fun _ hk => hk.2⟩, ((chg_of (P := fun k => k = q) HK1.out.2.1).trans HP.out.2 fun _ _ q => q).trans hcfg fun _ _ q => q⟩
      rcases hk.1 with hk | hk
      · exact hk.1.elim .inl fun q => .inr (by omega)
      · exact .inr (by omega)
    obtain ⟨A10, c10, hv10, -⟩ := own_at h1
    have HDONE := Lib.hid hdone
    have HC10 := Lib.hid hc10; clear hdone hnx hcfg hog hcg hqg hc10 hq10 h1 h2
    subst hv10
    obtain ⟨mm, hmm⟩ : ∃ mm, mm = (rd.apply M.now ⟨kind, sa, sb, f⟩).length := ⟨_, rfl⟩
    rw [← hmm] at hwg ⊢
    clear hmm
    go_wp2_with fail
    refine ⟨by first | exact later_of HC10.out | exact fun _ => later_of HC10.out, ?_⟩
    refine planz_one [false, false, false, false, false, false, false, true] 7 2 (by dsimp only [sel]) (by rfl) rfl (by kernel_rfl) ?_; intro K1 hK1; go_wp2_with fail
    refine ⟨by first | exact later_of HC10.out | exact fun _ => later_of HC10.out, ?_⟩
    refine planz_one [false, false, false, false, false, false, false, false, true] 8 1 (by dsimp only [sel]) (by rfl) rfl (by kernel_rfl) ?_; intro K1 hK1; go_wp2_with fail
    refine ⟨by first | exact later_of HC10.out | exact fun _ => later_of HC10.out, ?_⟩
    refine planz_one [false, false, false, false, false, false, false, false, false, true] 9 0 (by dsimp only [sel]) (by rfl) rfl (by kernel_rfl) ?_; intro K1 hK1; go_wp2_with fail
    refine ⟨by first | exact fun h => absurd rfl h | trivial, ?_⟩
    refine wp_planz_end (by kernel_rfl) ?_
    rw [← hwg]
    refine hK6 _ _ ?_
    clear hK6
    go_end0
    exact ⟨rfl, HDONE.out⟩
end
section
open Go.RowKit Go.Maps
set_option maxRecDepth 100000

theorem rf.infoFile : (Try.prog.info? 89).map (fun i => (i.zero, i.size, i.bytes)) = some (some (.agg #[.slice none 0 0, .int .i64 0]), 2, 32) := by kernel_rfl
theorem rf.frow_set : ∀ (l : List RFil) (i : Nat) (y : RFil), rf.frow (l.set i y) = ((rf.frow l).set (i * 2) y.val).set (i * 2 + 1) (.int .i64 (y.v.safe : Int))
  | [], i, y => by simp [rf.frow]
  | x :: l, 0, y => by simp [rf.frow, rf.fcells]
  | x :: l, i + 1, y => by
    have ih := rf.frow_set l i y
    have e1 : rf.frow (x :: l) = x.val :: .int .i64 (x.v.safe : Int) :: rf.frow l := rfl
    have e2 : rf.frow ((x :: l).set (i + 1) y) = x.val :: .int .i64 (x.v.safe : Int) :: rf.frow (l.set i y) := rfl
    rw [e2, ih, e1, show (i + 1) * 2 = i * 2 + 1 + 1 from by omega]
    rfl
theorem rf.frow_all {l : List RFil} {n : Nat} (h : l.length = n) : cellsOf (n * 2) (fun j => (rf.frow l).getD j undef) = rf.frow l := by
  have := cellsOf_list (rf.frow l)
  rw [rf.frow_len, h] at this
  exact this
theorem rf.frow_one {w : World} {l : List RFil} {n : Nat} (hn : l.length = n) (hb : ∀ x ∈ l, w.ownsRow 0 5 1 x.val x.v.data.length (u8s x.v.data)) : ∀ j, j < n * 2 → ((rf.frow l).getD j undef).oneCell' = true := by
  intro j hj
  obtain ⟨x, hx⟩ : ∃ x, l[j / 2]? = some x := ⟨_, List.getElem?_eq_getElem (by omega)⟩
  obtain ⟨r0, r1⟩ := rf.frow_at hx
  rcases Nat.mod_two_eq_zero_or_one j with h | h
  · rw [show j = j / 2 * 2 by omega, r0]
    obtain ⟨A, c, e, -⟩ := own_at (hb x (List.mem_of_getElem? hx))
    rw [e]
    rfl
  · rw [show j = j / 2 * 2 + 1 by omega, r1]; rfl
set_option maxHeartbeats 8000000 in
theorem rf.set_any (q : Nat) (M : RDisk) (G : Nat → Prop) (fs : List RFil) (fv nv sv av : Value) (i : Nat) (Bv : Option Addr) (cv : Nat) (v : FileV) (w : World) (h : RefAt w q M G fs fv nv sv av) (hi : i < M.files.length) (hl : M.files.length ≤ 100000) (hb : w.ownsRow 0 5 1 (.slice Bv v.data.length cv) v.data.length (u8s v.data)) (hG : ∀ k, (Value.slice Bv v.data.length cv).ownBlock = some k → G k) :
    Calls Try.prog 58 #[.pointer (some ⟨q, 0, none⟩), .int .i64 (i : Int), .slice Bv v.data.length cv, .int .i64 (v.safe : Int)] w fun e w' => e = .returned (.tuple #[]) ∧ (∃ fs' fv', RefAt w' q (M.set i v) (dk.grow G w w') fs' fv' nv sv av) ∧ Chg w w' (fun k => k = q) := by
  have hfl : fs.length = M.files.length := by rw [← h.files, List.length_map]
  obtain ⟨i0, hinf, hz0, hz1, hz2⟩ := info_parts rf.infoFile
  have HI := Lib.hid (And.intro hinf (And.intro hz0 (And.intro hz1 hz2))); clear hinf hz0 hz1 hz2
  obtain ⟨gf, cf, hfv, hnc, hcm, -, hgf, hatf⟩ := own_pos4 h.frow (by omega)
  have hone := rf.frow_one rfl h.bytes
  obtain ⟨n, hn⟩ : ∃ n, n = fs.length := ⟨_, rfl⟩
  rw [← hn] at hfl hfv hnc hatf hone
  have HN := Lib.hid hn.symm; clear hn
  unfold maxLen at hcm
  have c1 := h.blk.cell 1 (v := fv) rfl
  have z1 := h.blk.frozen 1
  rw [hfv] at c1
  have hql := h.blk.lt
  have hml : (M.set i v).files = M.files.set i v := rfl
  obtain ⟨nb, hnb⟩ : ∃ nb, nb = v.data.length := ⟨_, rfl⟩
  rw [← hnb] at hb hG ⊢
  have hfin : ∀ (w2 w3 wf : World) (g c2 : Nat), Below w.heap.size w w2 → w2.ownsRow w.heap.size 89 2 (.slice (some ⟨g, 0, none⟩) n c2) n (rf.frow fs) → w3 = w2.setCell ⟨q, 1, none⟩ (.slice (some ⟨g, 0, none⟩) n c2) → wf = (w3.setCell ⟨g, i * 2, none⟩ (.slice Bv nb cv)).setCell ⟨g, i * 2 + 1, none⟩ (.int .i64 (v.safe : Int)) →
      (∃ fs' fv', RefAt wf q (M.set i v) (dk.grow G w wf) fs' fv' nv sv av) ∧ Chg w wf (fun k => k = q) := fun w2 w3 wf g c2 h2 ho e3 ef => by
    have hq2 := (chg_of (P := fun _ => False) h2).blk h.blk id
    have hq3 := hq2.set 1 (.slice (some ⟨g, 0, none⟩) n c2)
    rw [← e3] at hq3
    have hc3 : Chg w2 w3 (fun k => k = q) := by rw [e3]; exact Chg.setCell _ _ _ _
    have ho3 := hc3.own ho fun k hk e => by subst e; exact hq2.not_row (by decide) ho hk
    have s1 := (ho3.stored (i * 2) (.slice Bv nb cv)).1
    have s2 := (s1.stored (i * 2 + 1) (.int .i64 (v.safe : Int))).1
    rw [← ef] at s2
    have hgw := (ho.lt g rfl).1
    have hgq : g ≠ q := by omega
    have hcf : Chg w3 wf (fun k => k = g) := by rw [ef]; exact (Chg.setCell _ _ _ _).trans (Chg.setCell _ _ _ _) fun _ _ q => q
    have hqf := hcf.blk hq3 fun e => hgq e.symm
    have hcw : Chg w wf (fun k => k = q) := ((chg_of (P := fun k => k = q) h2).trans hc3 fun _ _ q => q).trans hcf fun k hk e => by omega
    rw [← rf.frow_set fs i ⟨.slice Bv nb cv, v⟩] at s2
    have hsl : (fs.set i ⟨.slice Bv nb cv, v⟩).length = n := by rw [List.length_set, HN.out]
    refine ⟨⟨fs.set i ⟨.slice Bv nb cv, v⟩, _, h.next hcw hqf (.inr ⟨by rw [hsl]; exact s2, ?_, fun x hx => ?_⟩) (.inl ⟨rfl, rfl⟩) (.inl ⟨rfl, rfl⟩) (.inl ⟨rfl, rfl⟩)⟩, hcw⟩
    · rw [hml, List.map_set, h.files]
    · rcases List.mem_or_eq_of_mem_set hx with hx | rfl
      · exact .inl hx
      · exact .inr (.inr ⟨by dsimp only; rw [← hnb]; exact hb, hG⟩)
  have HFIN := Lib.hid hfin; clear hfin
  have HH := Lib.hid (And.intro h (And.intro hatf hone)); clear h hatf hone hb hG hml
  have hm5 : (w.alloc (.cells #[] 89)).ownsRow w.heap.size 89 2 (.slice (some ⟨w.heap.size, 0, none⟩) 0 0) 0 [] := World.ownsRow_made w #[] 0 (Nat.le_refl _) (by unfold maxLen; omega) (by simp)
  have HM5 := Lib.hid hm5; clear hm5
  have hin : i < n := by omega
  have hn5 : n ≤ 100000 := by omega
  clear hfl hi hl
  have hin' : (i : Int) < (n : Int) := by omega
  go_enter Try.func58, Try.ntmps58
  clear hnb
  go_upto_region 1 with (at_builtin; go_loud (refine wpList_app2 _ rfl (.tmp 9) (.tmp 13) 47 rfl w.heap.size 89 i0 _ 2 32 Try.underlying47 HI.out.1 HI.out.2.1 HI.out.2.2.1 HI.out.2.2.2 rfl (by decide) _ 0 [] rfl HM5.out (some ⟨gf, 0, none⟩) n cf (fun j => (rf.frow fs).getD j undef) rfl (HH.out.2.1.alloc _) HH.out.2.2 (by unfold maxLen; omega) (by omega) (by simp) ?_); intro v2 w2 hown hg hl; rw [List.nil_append, rf.frow_all HN.out, Nat.zero_add] at hown; obtain ⟨g, c2, hv2, hnc2, hcm2, -, hgl, -⟩ := own_pos4 hown (by omega); subst hv2; have hb2 : Below w.heap.size w w2 := ((Below.refl _ w).alloc (Nat.le_refl _) _).grown hg (by simp) (fun g hg => by cases hg; exact Nat.le_refl _); have H2 := Lib.hid (And.intro hown hb2); clear hown hg hl; have t1 := ((chg_of (P := fun _ => False) hb2).blk HH.out.1.blk id).cell 1 (v := fv) rfl; have tz := ((chg_of (P := fun _ => False) hb2).blk HH.out.1.blk id).frozen 1; have tl := ((chg_of (P := fun _ => False) hb2).blk HH.out.1.blk id).lt; rw [hfv] at t1; clear hb2)
  obtain ⟨w3, hw3⟩ : ∃ w3, w3 = w2.setCell ⟨q, 1, none⟩ (.slice (some ⟨g, 0, none⟩) n c2) := ⟨_, rfl⟩
  rw [← hw3]
  have hq3 := ((chg_of (P := fun _ => False) H2.out.2).blk HH.out.1.blk id).set 1 (.slice (some ⟨g, 0, none⟩) n c2)
  rw [← hw3] at hq3
  have hc3 : Chg w2 w3 (fun k => k = q) := by rw [hw3]; exact Chg.setCell _ _ _ _
  have ho3 := hc3.own H2.out.1 fun k hk e => by subst e; exact ((chg_of (P := fun _ => False) H2.out.2).blk HH.out.1.blk id).not_row (by decide) H2.out.1 hk
  have x1 := hq3.cell 1 (v := .slice (some ⟨g, 0, none⟩) n c2) rfl
  have xl := hq3.lt
  have xg : g < w3.heap.size := (ho3.lt g rfl).2
  obtain ⟨y, hy⟩ : ∃ y, fs[i]? = some y := ⟨_, List.getElem?_eq_getElem (by rw [HN.out]; exact hin)⟩
  obtain ⟨f0, f1⟩ := rf.frow_at hy
  have y0 : w3.cell? ⟨g, i * 2, none⟩ = some y.val := by
    rw [ho3.cellAt (i * 2) (by omega), List.getElem?_eq_getElem (by rw [rf.frow_len, HN.out]; omega)]
    rw [List.getD_eq_getElem?_getD, List.getElem?_eq_getElem (by rw [rf.frow_len, HN.out]; omega), Option.getD_some] at f0
    rw [f0]
  have y1 : w3.cell? ⟨g, i * 2 + 1, none⟩ = some (.int .i64 (y.v.safe : Int)) := by
    rw [ho3.cellAt (i * 2 + 1) (by omega), List.getElem?_eq_getElem (by rw [rf.frow_len, HN.out]; omega)]
    rw [List.getD_eq_getElem?_getD, List.getElem?_eq_getElem (by rw [rf.frow_len, HN.out]; omega), Option.getD_some] at f1
    rw [f1]
  have yz := fun j => ho3.frozenAt j
  obtain ⟨Ay, cy, hyv, -⟩ := own_at (HH.out.1.bytes y (List.mem_of_getElem? hy))
  rw [hyv] at y0
  obtain ⟨wf, hwf⟩ : ∃ wf, wf = (w3.setCell ⟨g, i * 2, none⟩ (.slice Bv nb cv)).setCell ⟨g, i * 2 + 1, none⟩ (.int .i64 (v.safe : Int)) := ⟨_, rfl⟩
  have HP := Lib.hid (HFIN.out w2 w3 wf g c2 H2.out.2 H2.out.1 hw3 hwf)
  clear hw3 hq3 hc3 ho3 f0 f1 hy hyv c1 z1 t1 tz tl
  go_wp2_with fail
  rw [← hwf]
  go_end0
  exact ⟨rfl, HP.out⟩
end
section
open Go.RowKit Go.Maps
set_option maxRecDepth 100000

theorem Chg.cellF {a b : World} (h : Chg a b (fun _ => False)) {p : Addr} {v : Value} (hc : a.cell? p = some v) (hl : p.block < a.heap.size) : b.cell? p = some v :=
  ((h.below (Nat.le_refl _) fun _ q => q.elim).cell hl).trans hc
theorem Chg.cellP {a b : World} {P : Nat → Prop} (h : Chg a b P) {p : Addr} {v : Value} (hc : a.cell? p = some v) (hl : p.block < a.heap.size) (hp : ¬ P p.block) : b.cell? p = some v := by
  have hb := h.block p.block hl hp
  unfold World.cell? at hc ⊢
  rw [hb]
  exact hc
theorem At.at_chg {w w' : World} {A : Option Addr} {n : Nat} {V : Nat → Value} (h : At w A n V) (hc : Chg w w' (fun _ => False)) : At w' A n V := hc.at' h fun _ _ _ _ q => q
/-- Worlds behind another one, in which one cell is as it was. -/
def LaterQ (w : World) (p : Nat → Prop) (a : Addr) (v : Value) : Type := { w' : World // Chg w w' p ∧ w'.cell? a = some v }
theorem laterQ_of {w w' : World} {p : Nat → Prop} {a : Addr} {v : Value} (h : Chg w w' p) (hv : w'.cell? a = some v) : ∃ x : LaterQ w p a v, w' = x.1 := ⟨⟨w', h, hv⟩, rfl⟩
theorem rf.set_on (q : Nat) (M : RDisk) (G : Nat → Prop) (fs : List RFil) (fv nv sv av : Value) (i : Nat) (Bv : Option Addr) (cv : Nat) (v : FileV) (w wx : World) (h : RefAt w q M G fs fv nv sv av) (hx : Chg w wx (fun _ => False)) (hi : i < M.files.length) (hl : M.files.length ≤ 100000) (hb : wx.ownsRow 0 5 1 (.slice Bv v.data.length cv) v.data.length (u8s v.data)) (hG : ∀ k, (Value.slice Bv v.data.length cv).ownBlock = some k → G k ∨ w.heap.size ≤ k) :
    Calls Try.prog 58 #[.pointer (some ⟨q, 0, none⟩), .int .i64 (i : Int), .slice Bv v.data.length cv, .int .i64 (v.safe : Int)] wx fun e w' => e = .returned (.tuple #[]) ∧ (∃ fs' fv', RefAt w' q (M.set i v) (dk.grow G w w') fs' fv' nv sv av) ∧ Chg wx w' (fun k => k = q) := by
  have h1 := (h.keep hx fun _ _ q => q).wide (G' := dk.grow G w wx) (fun k hk => ⟨.inl hk, Nat.lt_of_lt_of_le (h.lt k hk) hx.size⟩) fun _ hk => hk.2
  refine (rf.set_any q M (dk.grow G w wx) fs fv nv sv av i Bv cv v wx h1 hi hl hb fun k hk => ⟨hG k hk, (hb.lt k hk).2⟩).mono ?_
  rintro e w' ⟨e1, ⟨fs', fv', h2⟩, h3⟩
  exact ⟨e1, ⟨fs', fv', h2.grown hx.size⟩, h3⟩
theorem RefD.grown {w w1 w2 : World} {q : Nat} {M : RDisk} {G : Nat → Prop} (h : RefD w2 q M (dk.grow (dk.grow G w w1) w1 w2)) (hs : w.heap.size ≤ w1.heap.size) : RefD w2 q M (dk.grow G w w2) := by
  obtain ⟨fs, fv, nv, sv, av, h⟩ := h
  exact ⟨fs, fv, nv, sv, av, h.grown hs⟩
set_option maxHeartbeats 8000000 in
theorem rf.Remove_any (s : ByteArray) (q : Nat) (M : RDisk) (G : Nat → Prop) (w : World) (h : RefD w q M G) (hw : M.WF) (hM : M.small) (hs : s.size ≤ maxLen) (hl : M.now.length ≤ 90000) (hla : M.acts.length ≤ 90000) (hlf : M.files.length ≤ 90000) :
    Calls Try.prog 39 #[.pointer (some ⟨q, 0, none⟩), .string s] w fun e w' => e = .returned (.int .i64 (M.remE s)) ∧ RefD w' q (M.rem s) (dk.grow G w w') ∧ Chg w w' (fun k => k = q) := by
  obtain ⟨fs, fv, nv, sv, av, h⟩ := h
  have hact := rf.act_one q M G fs fv nv sv av s w h hw hM hs
  have HC := Lib.hid hact; clear hact h
  have hwa := hw.acted
  have hla' : M.acted.acts.length ≤ 90000 := hla
  have hl' : M.acted.now.length ≤ 90000 := hl
  have hlf' : M.acted.files.length ≤ 90000 := hlf
  obtain ⟨z, hz⟩ : ∃ z, z = M.remE s := ⟨_, rfl⟩
  obtain ⟨M', hMp⟩ : ∃ M', M' = M.rem s := ⟨_, rfl⟩
  rw [← hz, ← hMp]
  unfold RDisk.rem at hMp
  rw [← hz] at hMp
  unfold RDisk.remE at hz
  obtain ⟨E, hE⟩ : ∃ E, E = M.actE [s] := ⟨_, rfl⟩
  rw [← hE] at hz HC
  obtain ⟨M1, hM1⟩ : ∃ M1, M1 = M.acted := ⟨_, rfl⟩
  rw [← hM1] at HC hMp hwa hla' hl' hlf'
  have hnow : M.now = M1.now := by rw [hM1]; rfl
  have hfile : M.file = M1.file := by rw [hM1]; rfl
  have hlen : M.len = M1.len := by rw [hM1]; rfl
  rw [hnow] at hz
  clear hE hM1 hnow hfile hlen hl hla hlf
  go_enter Try.func39, Try.ntmps39
  by_cases hne : E ≠ 0
  · rw [if_pos hne] at hz
    rw [if_pos (by rw [hz]; exact hne)] at hMp
    have HZ := Lib.hid (And.intro hz hMp); clear hz hMp
    have g2 : decide (E = 0) = false := decide_eq_false hne
    have g3 : (E == 0) = false := by simpa using hne
    clear hne
    go_wp2_with (go_at_call 56; refine HC.out.mono ?_; rintro e w1 ⟨rfl, h1, h2, h3⟩; have H1 := Lib.hid (And.intro h1 (And.intro h2 h3)); clear h1 h2 h3)
    go_ret
    exact ⟨by rw [HZ.out.1]; rfl, by rw [HZ.out.2]; exact ⟨_, _, _, _, _, H1.out.1⟩, H1.out.2.1⟩
  · obtain rfl : E = 0 := by simpa using hne
    rw [if_neg (by simp)] at hz
    clear hne
    go_upto_region 4 with (go_at_call 56; refine HC.out.mono ?_; rintro e w1 ⟨rfl, h1, h2, h3⟩; have H1 := Lib.hid (And.intro h1 (And.intro h2 h3)); clear h1 h2 h3)
    obtain ⟨A, c, hnv, hat⟩ := H1.out.1.now_at
    have hfind := rf.find_any A c M1.now s w1 hat (by omega)
    have c2 := H1.out.1.blk.cell 2 (v := nv) rfl
    rw [hnv] at c2
    have hql := H1.out.1.blk.lt
    obtain ⟨n, hn⟩ : ∃ n, n = M1.now.length := ⟨_, rfl⟩
    rw [← hn] at hl' hfind c2 hnv
    have HN := Lib.hid (And.intro hn hnv); clear hn hnv hat
    rcases rf.place_look (l := M1.now) (s := s) with ⟨h1, h2⟩ | ⟨j, x, h1, -, h3, h4⟩
    · rw [h2] at hfind
      rw [h1] at hz
      dsimp only at hz
      rw [if_pos (by rw [hz]; decide)] at hMp
      have HZ := Lib.hid (And.intro hz hMp); clear hz hMp
      have HF := Lib.hid hfind; clear hfind h1 h2
      go_wp2_with (go_at_call 45; refine HF.out.mono ?_; rintro e w2 ⟨rfl, rfl⟩)
      go_ret
      exact ⟨by rw [HZ.out.1]; rfl, by rw [HZ.out.2]; exact ⟨_, _, _, _, _, H1.out.1⟩, H1.out.2.1⟩
    · rw [h4] at hfind
      rw [h3] at hz
      dsimp only at hz
      rw [if_neg (by rw [hz]; simp)] at hMp
      have HZ := Lib.hid (And.intro hz hMp); clear hz hMp
      have hnm := rf.names_any q M1 (dk.grow G w w1) ⟨3, s, dk.no, 0⟩ w1 ⟨_, _, _, _, _, H1.out.1⟩ hwa (by rw [← HN.out.1]; omega) (by omega)
      have HNM := Lib.hid hnm; clear hnm
      have HF := Lib.hid hfind; clear hfind h1 h3 h4
      go_wp2_with (first
        | (go_at_call 57; refine HNM.out.mono ?_; rintro e w3 ⟨rfl, h1, h2⟩; have H3 := Lib.hid (And.intro h1 h2); clear h1 h2)
        | (go_at_call 45; refine HF.out.mono ?_; rintro e w2 ⟨rfl, rfl⟩))
      go_ret
      exact ⟨by rw [HZ.out.1]; rfl, by rw [HZ.out.2]; exact H3.out.1.grown (by rw [H1.out.2.2]; omega), H1.out.2.1.trans H3.out.2 fun _ _ q => q⟩
set_option maxHeartbeats 8000000 in
theorem rf.Rename_any (s t : ByteArray) (q : Nat) (M : RDisk) (G : Nat → Prop) (w : World) (h : RefD w q M G) (hw : M.WF) (hM : M.small) (hs : s.size ≤ maxLen) (ht : t.size ≤ maxLen) (hl : M.now.length ≤ 90000) (hla : M.acts.length ≤ 90000) (hlf : M.files.length ≤ 90000) :
    Calls Try.prog 38 #[.pointer (some ⟨q, 0, none⟩), .string s, .string t] w fun e w' => e = .returned (.int .i64 (M.renE s t)) ∧ RefD w' q (M.ren s t) (dk.grow G w w') ∧ Chg w w' (fun k => k = q) := by
  obtain ⟨fs, fv, nv, sv, av, h⟩ := h
  have hact := rf.act_two q M G fs fv nv sv av s t w h hw hM hs ht
  have HC := Lib.hid hact; clear hact h
  have hwa := hw.acted
  have hla' : M.acted.acts.length ≤ 90000 := hla
  have hl' : M.acted.now.length ≤ 90000 := hl
  have hlf' : M.acted.files.length ≤ 90000 := hlf
  obtain ⟨z, hz⟩ : ∃ z, z = M.renE s t := ⟨_, rfl⟩
  obtain ⟨M', hMp⟩ : ∃ M', M' = M.ren s t := ⟨_, rfl⟩
  rw [← hz, ← hMp]
  unfold RDisk.ren at hMp
  rw [← hz] at hMp
  unfold RDisk.renE at hz
  obtain ⟨E, hE⟩ : ∃ E, E = M.actE [s, t] := ⟨_, rfl⟩
  rw [← hE] at hz HC
  obtain ⟨M1, hM1⟩ : ∃ M1, M1 = M.acted := ⟨_, rfl⟩
  rw [← hM1] at HC hMp hwa hla' hl' hlf'
  have hnow : M.now = M1.now := by rw [hM1]; rfl
  have hfile : M.file = M1.file := by rw [hM1]; rfl
  have hlen : M.len = M1.len := by rw [hM1]; rfl
  rw [hnow] at hz hMp
  clear hE hM1 hnow hfile hlen hl hla hlf
  go_enter Try.func38, Try.ntmps38
  by_cases hne : E ≠ 0
  · rw [if_pos hne] at hz
    rw [if_pos (by rw [hz]; exact hne)] at hMp
    have HZ := Lib.hid (And.intro hz hMp); clear hz hMp
    have g2 : decide (E = 0) = false := decide_eq_false hne
    have g3 : (E == 0) = false := by simpa using hne
    clear hne
    go_wp2_with (go_at_call 56; refine HC.out.mono ?_; rintro e w1 ⟨rfl, h1, h2, h3⟩; have H1 := Lib.hid (And.intro h1 (And.intro h2 h3)); clear h1 h2 h3)
    go_ret
    exact ⟨by rw [HZ.out.1]; rfl, by rw [HZ.out.2]; exact ⟨_, _, _, _, _, H1.out.1⟩, H1.out.2.1⟩
  · obtain rfl : E = 0 := by simpa using hne
    rw [if_neg (by simp)] at hz
    clear hne
    go_upto_region 4 with (go_at_call 56; refine HC.out.mono ?_; rintro e w1 ⟨rfl, h1, h2, h3⟩; have H1 := Lib.hid (And.intro h1 (And.intro h2 h3)); clear h1 h2 h3)
    obtain ⟨A, c, hnv, hat⟩ := H1.out.1.now_at
    have hfind := rf.find_any A c M1.now s w1 hat (by omega)
    have c2 := H1.out.1.blk.cell 2 (v := nv) rfl
    rw [hnv] at c2
    have hql := H1.out.1.blk.lt
    obtain ⟨n, hn⟩ : ∃ n, n = M1.now.length := ⟨_, rfl⟩
    rw [← hn] at hl' hfind c2 hnv
    have HN := Lib.hid (And.intro hn hnv); clear hn hnv hat
    rcases rf.place_look (l := M1.now) (s := s) with ⟨h1, h2⟩ | ⟨j, x, h1, -, h3, h4⟩
    · rw [h2] at hfind
      rw [h1] at hz
      dsimp only at hz
      rw [if_pos (by rw [hz]; decide)] at hMp
      have HZ := Lib.hid (And.intro hz hMp); clear hz hMp
      have HF := Lib.hid hfind; clear hfind h1 h2
      go_wp2_with (go_at_call 45; refine HF.out.mono ?_; rintro e w2 ⟨rfl, rfl⟩)
      go_ret
      exact ⟨by rw [HZ.out.1]; rfl, by rw [HZ.out.2]; exact ⟨_, _, _, _, _, H1.out.1⟩, H1.out.2.1⟩
    · rw [h4] at hfind
      rw [h3] at hz hMp
      dsimp only at hz hMp
      have hjl := (List.getElem?_eq_some_iff.1 h1).1
      rw [← HN.out.1] at hjl
      by_cases hst : s = t
      · rw [if_pos hst] at hz
        rw [if_pos (by rw [hz]; decide)] at hMp
        have g2 : (s.toList == t.toList) = true := by rw [hst]; simp
        have HZ := Lib.hid (And.intro hz hMp); clear hz hMp hst
        have HF := Lib.hid hfind; clear hfind h1 h3 h4
        go_wp2_with (go_at_call 45; refine HF.out.mono ?_; rintro e w2 ⟨rfl, rfl⟩)
        go_ret
        exact ⟨by rw [HZ.out.1]; rfl, by rw [HZ.out.2]; exact ⟨_, _, _, _, _, H1.out.1⟩, H1.out.2.1⟩
      rw [if_neg hst] at hz
      rw [if_neg (by rw [hz]; simp)] at hMp
      have g2 : (s.toList == t.toList) = false := dk.str_ne hst
      have HZ := Lib.hid (And.intro hz hMp); clear hz hMp hst
      obtain ⟨y, gn, cn, gf, cf, e1, -, -, -, hgn, -, d1, -⟩ := H1.out.1.led hwa h1
      obtain ⟨rfl, rfl⟩ : A = some ⟨gn, 0, none⟩ ∧ c = cn := by rw [HN.out.2, ← HN.out.1] at e1; simpa using e1
      have hnm := rf.names_any q M1 (dk.grow G w w1) ⟨2, s, t, x.2⟩ w1 ⟨_, _, _, _, _, H1.out.1⟩ hwa (by rw [← HN.out.1]; omega) (by omega)
      obtain ⟨kx, hkx⟩ : ∃ kx, kx = x.2 := ⟨_, rfl⟩
      rw [← hkx] at d1 hnm HZ
      have HNM := Lib.hid hnm; clear hnm
      have hjl' : (j : Int) < (n : Int) := by omega
      have HF := Lib.hid hfind; clear hfind h1 h3 h4 e1 hkx
      go_wp2_with (first
        | (go_at_call 57; refine HNM.out.mono ?_; rintro e w3 ⟨rfl, h1, h2⟩; have H3 := Lib.hid (And.intro h1 h2); clear h1 h2)
        | (go_at_call 45; refine HF.out.mono ?_; rintro e w2 ⟨rfl, rfl⟩))
      go_ret
      exact ⟨by rw [HZ.out.1]; rfl, by rw [HZ.out.2]; exact H3.out.1.grown (by rw [H1.out.2.2]; omega), H1.out.2.1.trans H3.out.2 fun _ _ q => q⟩
set_option maxHeartbeats 8000000 in
theorem rf.Sync_any (s : ByteArray) (q : Nat) (M : RDisk) (G : Nat → Prop) (w : World) (h : RefD w q M G) (hw : M.WF) (hM : M.small) (hs : s.size ≤ maxLen) (hl : M.now.length ≤ 90000) (hla : M.acts.length ≤ 90000) (hlf : M.files.length ≤ 90000) :
    Calls Try.prog 37 #[.pointer (some ⟨q, 0, none⟩), .string s] w fun e w' => e = .returned (.int .i64 (M.syncE s)) ∧ RefD w' q (M.sync s) (dk.grow G w w') ∧ Chg w w' (fun k => k = q) := by
  obtain ⟨fs, fv, nv, sv, av, h⟩ := h
  have hact := rf.act_one q M G fs fv nv sv av s w h hw hM hs
  have HC := Lib.hid hact; clear hact h
  have hwa := hw.acted
  have hla' : M.acted.acts.length ≤ 90000 := hla
  have hl' : M.acted.now.length ≤ 90000 := hl
  have hlf' : M.acted.files.length ≤ 90000 := hlf
  obtain ⟨z, hz⟩ : ∃ z, z = M.syncE s := ⟨_, rfl⟩
  obtain ⟨M', hMp⟩ : ∃ M', M' = M.sync s := ⟨_, rfl⟩
  rw [← hz, ← hMp]
  unfold RDisk.sync at hMp
  rw [← hz] at hMp
  unfold RDisk.syncE at hz
  obtain ⟨E, hE⟩ : ∃ E, E = M.actE [s] := ⟨_, rfl⟩
  rw [← hE] at hz HC
  obtain ⟨M1, hM1⟩ : ∃ M1, M1 = M.acted := ⟨_, rfl⟩
  rw [← hM1] at HC hMp hwa hla' hl' hlf'
  have hnow : M.now = M1.now := by rw [hM1]; rfl
  have hfile : M.file = M1.file := by rw [hM1]; rfl
  have hlen : M.len = M1.len := by rw [hM1]; rfl
  rw [hnow] at hz
  rw [hnow, hfile] at hMp
  clear hE hM1 hnow hfile hlen hl hla hlf
  go_enter Try.func37, Try.ntmps37
  by_cases hne : E ≠ 0
  · rw [if_pos hne] at hz
    rw [if_pos (by rw [hz]; exact hne)] at hMp
    have HZ := Lib.hid (And.intro hz hMp); clear hz hMp
    have g2 : decide (E = 0) = false := decide_eq_false hne
    have g3 : (E == 0) = false := by simpa using hne
    clear hne
    go_wp2_with (go_at_call 56; refine HC.out.mono ?_; rintro e w1 ⟨rfl, h1, h2, h3⟩; have H1 := Lib.hid (And.intro h1 (And.intro h2 h3)); clear h1 h2 h3)
    go_ret
    exact ⟨by rw [HZ.out.1]; rfl, by rw [HZ.out.2]; exact ⟨_, _, _, _, _, H1.out.1⟩, H1.out.2.1⟩
  · obtain rfl : E = 0 := by simpa using hne
    rw [if_neg (by simp)] at hz
    clear hne
    go_upto_region 4 with (go_at_call 56; refine HC.out.mono ?_; rintro e w1 ⟨rfl, h1, h2, h3⟩; have H1 := Lib.hid (And.intro h1 (And.intro h2 h3)); clear h1 h2 h3)
    obtain ⟨A, c, hnv, hat⟩ := H1.out.1.now_at
    have hfind := rf.find_any A c M1.now s w1 hat (by omega)
    have c2 := H1.out.1.blk.cell 2 (v := nv) rfl
    rw [hnv] at c2
    have hql := H1.out.1.blk.lt
    obtain ⟨n, hn⟩ : ∃ n, n = M1.now.length := ⟨_, rfl⟩
    rw [← hn] at hl' hfind c2 hnv
    have HN := Lib.hid (And.intro hn hnv); clear hn hnv hat
    rcases rf.place_look (l := M1.now) (s := s) with ⟨h1, h2⟩ | ⟨j, x, h1, -, h3, h4⟩
    · rw [h2] at hfind
      rw [h1] at hz
      dsimp only at hz
      rw [if_pos (by rw [hz]; decide)] at hMp
      have HZ := Lib.hid (And.intro hz hMp); clear hz hMp
      have HF := Lib.hid hfind; clear hfind h1 h2
      go_wp2_with (go_at_call 45; refine HF.out.mono ?_; rintro e w2 ⟨rfl, rfl⟩)
      go_ret
      exact ⟨by rw [HZ.out.1]; rfl, by rw [HZ.out.2]; exact ⟨_, _, _, _, _, H1.out.1⟩, H1.out.2.1⟩
    · rw [h4] at hfind
      rw [h3] at hz hMp
      dsimp only at hz hMp
      rw [if_neg (by rw [hz]; simp)] at hMp
      have hjl := (List.getElem?_eq_some_iff.1 h1).1
      rw [← HN.out.1] at hjl
      obtain ⟨y, gn, cn, gf, cf, e1, e2, e3, e4, hgn, hgf, d1, d2, d3, hrow, hxl⟩ := H1.out.1.led hwa h1
      obtain ⟨Ab, cb, hyv, hbc, -⟩ := own_at hrow
      have hbcm : cb ≤ maxLen := own_cap (hyv ▸ hrow)
      unfold maxLen at hbcm
      rw [hyv] at d2 hrow
      have c1 := H1.out.1.blk.cell 1 (v := fv) rfl
      rw [e2] at c1
      have hgnq : gn ≠ q := fun e => by subst e; exact H1.out.1.blk.not_row (by decide) H1.out.1.nrow (by rw [e1]; rfl)
      have GNQ := Lib.hid hgnq; clear hgnq
      obtain ⟨rfl, rfl⟩ : A = some ⟨gn, 0, none⟩ ∧ c = cn := by rw [HN.out.2, ← HN.out.1] at e1; simpa using e1
      have hGy : ∀ k, (Value.slice Ab y.v.data.length cb).ownBlock = some k → dk.grow G w w1 k := fun k hk => H1.out.1.foot.2.2.2.2.2 y (List.mem_of_getElem? e3) k (by rw [hyv]; exact hk)
      rw [← e4] at hMp
      have hxf : x.2 < M1.files.length := (hwa.good x (List.mem_of_getElem? h1)).1
      obtain ⟨kx, hkx⟩ : ∃ kx, kx = x.2 := ⟨_, rfl⟩
      obtain ⟨nb, hnb⟩ : ∃ nb, nb = y.v.data.length := ⟨_, rfl⟩
      obtain ⟨nf, hnf⟩ : ∃ nf, nf = fs.length := ⟨_, rfl⟩
      obtain ⟨sf, hsf⟩ : ∃ sf : Nat, sf = y.v.safe := ⟨_, rfl⟩
      rw [← hkx] at d1 d2 d3 hMp hxl hxf
      rw [← hnb] at d2 hrow hbc hGy hMp
      rw [← hnf] at c1 hxl
      rw [← hsf] at d3
      have hset := fun (wx : World) (hx : Chg w1 wx (fun _ => False)) => rf.set_on q M1 (dk.grow G w w1) fs fv nv sv av kx Ab cb ⟨y.v.data, nb⟩ w1 wx H1.out.1 hx hxf (by omega) (by dsimp only; rw [← hnb]; exact hx.own hrow fun _ _ q => q) (by dsimp only; rw [← hnb]; exact fun k hk => .inl (hGy k hk))
      dsimp only at hset
      rw [← hnb] at hset
      have HST := Lib.hid hset; clear hset
      have HZ := Lib.hid (And.intro hz hMp); clear hz hMp
      have HF := Lib.hid hfind; clear hfind h1 h3 h4 e1 e2 e3 e4 hkx hnb hyv hrow hGy hnf hsf
      have hjl' : (j : Int) < (n : Int) := by omega
      have hxl' : (kx : Int) < (nf : Int) := by omega
      go_upto_region 7 with (go_at_call 45; refine HF.out.mono ?_; rintro e w2 ⟨rfl, rfl⟩)
      have p1 : ∀ x : Later w2 (fun _ => False), x.1.cell? ⟨q, 1, none⟩ = some (.slice (some ⟨gf, 0, none⟩) nf cf) := fun x => x.2.cellF c1 hql
      have p2 : ∀ x : Later w2 (fun _ => False), x.1.cell? ⟨q, 2, none⟩ = some (.slice (some ⟨gn, 0, none⟩) n c) := fun x => x.2.cellF c2 hql
      have p3 : ∀ x : Later w2 (fun _ => False), x.1.cell? ⟨gn, j * 2 + 1, none⟩ = some (.int .i64 (kx : Int)) := fun x => x.2.cellF d1 hgn
      have p4 : ∀ x : Later w2 (fun _ => False), x.1.cell? ⟨gf, kx * 2, none⟩ = some (.slice Ab nb cb) := fun x => x.2.cellF d2 hgf
      have p5 : ∀ x : Later w2 (fun _ => False), x.1.cell? ⟨gf, kx * 2 + 1, none⟩ = some (.int .i64 (sf : Int)) := fun x => x.2.cellF d3 hgf
      have t4 : w2.drew.cell? ⟨gf, kx * 2, none⟩ = some (.slice Ab nb cb) := d2
      have t5 : w2.drew.cell? ⟨gf, kx * 2 + 1, none⟩ = some (.int .i64 (sf : Int)) := d3
      have hS0 : later w2 (fun _ => False) w2.drew := later_of ((Chg.refl _ _).drew)
      refine wp_plan (S := fun w0 => ∃ x : Later w2 (fun _ => False), w0 = x.1) (by kernel_rfl) hS0 ?_
      intro hS' K5 hK5
      have HS := Lib.hid hS'; clear hS' hS0
      refine plan_group [true, true, true, true, true, true, true, true, true, true, true, true, true, true] [0, 1, 2, 3, 4, 5, 6, 7, 8, 9, 10, 11, 12, 13] 2 (by dsimp only [sel]) (by rfl) rfl (by kernel_rfl) (by kernel_rfl) HS.out ?_
      (repeat go_big_quiet_step (fail)); refine wpQuiet_nil ?_
      refine plan_one [false, false, false, false, false, false, false, false, false, false, false, false, false, false, true] 14 1 (by dsimp only [sel]) (by rfl) rfl (by kernel_rfl) ?_; intro K1 hK1; go_wp2_with fail
      refine ⟨later_of (Chg.alloc _ _ _).drew, ?_⟩
      refine plan_one [false, false, false, false, false, false, false, false, false, false, false, false, false, false, false, true] 15 0 (by dsimp only [sel]) (by rfl) rfl (by kernel_rfl) ?_; intro K1 hK1; go_wp2_with fail
      refine ⟨later_of (Chg.alloc _ _ _).drew, ?_⟩
      refine wp_plan_end (by kernel_rfl) ?_
      obtain ⟨w3, hw3⟩ : ∃ w3, w3 = (w2.alloc (.cells #[.slice Ab nb cb, .int .i64 (sf : Int)] 89)).drew := ⟨_, rfl⟩
      obtain ⟨g3, hg3⟩ : ∃ g3, g3 = w2.heap.size := ⟨_, rfl⟩
      have hc3 : Chg w2 w3 (fun _ => False) := by rw [hw3]; exact (Chg.alloc _ _ _).drew
      have hb3 : Blk w3 g3 89 #[.slice Ab nb cb, .int .i64 (sf : Int)] := by rw [hw3, hg3]; exact (Blk.new _ _ _).drew 1
      rw [← hw3, ← hg3]
      have hgnq : gn ≠ q := GNQ.out
      have hg3q : g3 ≠ q := by omega
      have HNE : Nonempty (LaterQ w3 (fun k => k = q) ⟨q, 2, none⟩ (.slice (some ⟨gn, 0, none⟩) n c)) := ⟨⟨w3, Chg.refl _ _, hc3.cellF c2 hql⟩⟩
      have r2 : ∀ x : LaterQ w3 (fun k => k = q) ⟨q, 2, none⟩ (.slice (some ⟨gn, 0, none⟩) n c), x.1.cell? ⟨q, 2, none⟩ = some (.slice (some ⟨gn, 0, none⟩) n c) := fun x => x.2.2
      have r3 : ∀ x : LaterQ w3 (fun k => k = q) ⟨q, 2, none⟩ (.slice (some ⟨gn, 0, none⟩) n c), x.1.cell? ⟨gn, j * 2 + 1, none⟩ = some (.int .i64 (kx : Int)) := fun x => x.2.1.cellP (hc3.cellF d1 hgn) (Nat.lt_of_lt_of_le hgn hc3.size) hgnq
      have r4 : ∀ x : LaterQ w3 (fun k => k = q) ⟨q, 2, none⟩ (.slice (some ⟨gn, 0, none⟩) n c), x.1.cell? ⟨g3, 0, none⟩ = some (.slice Ab nb cb) := fun x => (x.2.1.blk hb3 hg3q).cell 0 rfl
      have r5 : ∀ x : LaterQ w3 (fun k => k = q) ⟨q, 2, none⟩ (.slice (some ⟨gn, 0, none⟩) n c), x.1.cell? ⟨g3, 1, none⟩ = some (.int .i64 (sf : Int)) := fun x => (x.2.1.blk hb3 hg3q).cell 1 rfl
      have hS3 : ∃ x : LaterQ w3 (fun k => k = q) ⟨q, 2, none⟩ (.slice (some ⟨gn, 0, none⟩) n c), w3.drew = x.1 := laterQ_of ((Chg.refl _ _).drew) (hc3.cellF c2 hql)
      have HS3 := Lib.hid hS3; clear hS3
      have s4 : w3.drew.cell? ⟨g3, 0, none⟩ = some (.slice Ab nb cb) := hb3.cell 0 rfl
      have s5 : w3.drew.cell? ⟨g3, 1, none⟩ = some (.int .i64 (sf : Int)) := hb3.cell 1 rfl
      have u4 : w3.cell? ⟨g3, 0, none⟩ = some (.slice Ab nb cb) := hb3.cell 0 rfl
      have u5 : w3.cell? ⟨g3, 1, none⟩ = some (.int .i64 (sf : Int)) := hb3.cell 1 rfl
      have hg3l := hb3.lt
      have hql3 : q < w3.heap.size := Nat.lt_of_lt_of_le hql hc3.size
      have HC3 := Lib.hid (And.intro hc3 hb3); clear hc3 hb3 hw3 hg3 p1 p2 p3 p4 p5 t4 t5 c1 c2 d1 d2 d3
      go_upto_region 8 with fail
      have hS0 := HS3.out
      refine wp_plan (S := fun w0 => ∃ x : LaterQ w3 (fun k => k = q) ⟨q, 2, none⟩ (.slice (some ⟨gn, 0, none⟩) n c), w0 = x.1) (by kernel_rfl) hS0 ?_
      intro hS' K6 hK6
      have HS := Lib.hid hS'; clear hS' hS0
      refine plan_group [true, true, true, true, true, true, true, true, true, true, true, true] [0, 1, 2, 3, 4, 5, 6, 7, 8, 9, 10, 11] 3 (by dsimp only [sel]) (by rfl) rfl (by kernel_rfl) (by kernel_rfl) HS.out ?_
      (repeat go_big_quiet_step (fail)); refine wpQuiet_nil ?_
      refine plan_one [false, false, false, false, false, false, false, false, false, false, false, false, true] 12 2 (by dsimp only [sel]) (by rfl) rfl (by kernel_rfl) ?_; intro K1 hK1; go_wp2_with fail
      refine ⟨HS.out, ?_⟩
      refine plan_group [false, false, false, false, false, false, false, false, false, false, false, false, false, true] [13] 1 (by dsimp only [sel]) (by rfl) rfl (by kernel_rfl) (by kernel_rfl) HS.out ?_
      (repeat go_big_quiet_step (fail)); refine wpQuiet_nil ?_
      refine plan_one [false, false, false, false, false, false, false, false, false, false, false, false, false, false, true] 14 0 (by dsimp only [sel]) (by rfl) rfl (by kernel_rfl) ?_; intro K1 hK1; go_wp2_with fail
      refine (HST.out w3.drew HC3.out.1.drew).mono ?_
      rintro e w9 ⟨rfl, ⟨fs9, fv9, h1⟩, h2⟩
      have hlast : ∃ x : LaterQ w3 (fun k => k = q) ⟨q, 2, none⟩ (.slice (some ⟨gn, 0, none⟩) n c), w9 = x.1 := laterQ_of (((Chg.refl w3 (fun k => k = q)).drew).trans h2 fun _ _ q => q) (by rw [← HN.out.2]; exact h1.blk.cell 2 (v := nv) rfl)
      have hcw : Chg w2 w9 (fun k => k = q) := (HC3.out.1.mono fun _ _ q => q.elim).trans (((Chg.refl w3 (fun k => k = q)).drew).trans h2 fun _ _ q => q) fun _ _ q => q
      have H9 := Lib.hid (And.intro h1 (And.intro hcw hlast)); clear h1 h2 hcw hlast
      go_wp2_with fail
      refine ⟨H9.out.2.2, ?_⟩
      refine wp_plan_end (by kernel_rfl) ?_
      go_wp2_with fail
      go_ret
      exact ⟨by rw [HZ.out.1]; rfl, by rw [HZ.out.2]; exact ⟨_, _, _, _, _, H9.out.1.grown (by rw [H1.out.2.2]; omega)⟩, H1.out.2.1.trans H9.out.2.1 fun _ _ q => q⟩
set_option maxHeartbeats 8000000 in
theorem rf.Truncate_any (s : ByteArray) (N : Int) (q : Nat) (M : RDisk) (G : Nat → Prop) (w : World) (h : RefD w q M G) (hw : M.WF) (hM : M.small) (hs : s.size ≤ maxLen) (hNb : -9223372036854775808 ≤ N ∧ N ≤ 9223372036854775807) (hl : M.now.length ≤ 90000) (hla : M.acts.length ≤ 90000) (hlf : M.files.length ≤ 90000) :
    Calls Try.prog 36 #[.pointer (some ⟨q, 0, none⟩), .string s, .int .i64 N] w fun e w' => e = .returned (.int .i64 (M.truncE s N)) ∧ RefD w' q (M.trunc s N) (dk.grow G w w') ∧ Chg w w' (fun k => k = q) := by
  obtain ⟨fs, fv, nv, sv, av, h⟩ := h
  have hact := rf.act_one q M G fs fv nv sv av s w h hw hM hs
  have HC := Lib.hid hact; clear hact h
  have hwa := hw.acted
  have hla' : M.acted.acts.length ≤ 90000 := hla
  have hl' : M.acted.now.length ≤ 90000 := hl
  have hlf' : M.acted.files.length ≤ 90000 := hlf
  obtain ⟨z, hz⟩ : ∃ z, z = M.truncE s N := ⟨_, rfl⟩
  obtain ⟨M', hMp⟩ : ∃ M', M' = M.trunc s N := ⟨_, rfl⟩
  rw [← hz, ← hMp]
  unfold RDisk.trunc at hMp
  rw [← hz] at hMp
  unfold RDisk.truncE at hz
  obtain ⟨E, hE⟩ : ∃ E, E = M.actE [s] := ⟨_, rfl⟩
  rw [← hE] at hz HC
  obtain ⟨M1, hM1⟩ : ∃ M1, M1 = M.acted := ⟨_, rfl⟩
  rw [← hM1] at HC hMp hwa hla' hl' hlf'
  have hnow : M.now = M1.now := by rw [hM1]; rfl
  have hfile : M.file = M1.file := by rw [hM1]; rfl
  have hlen : M.len = M1.len := by rw [hM1]; rfl
  rw [hnow, hlen] at hz
  rw [hnow, hfile] at hMp
  clear hE hM1 hnow hfile hlen hl hla hlf
  go_enter Try.func36, Try.ntmps36
  by_cases hne : E ≠ 0
  · rw [if_pos hne] at hz
    rw [if_pos (by rw [hz]; exact hne)] at hMp
    have HZ := Lib.hid (And.intro hz hMp); clear hz hMp
    have g2 : decide (E = 0) = false := decide_eq_false hne
    have g3 : (E == 0) = false := by simpa using hne
    clear hne
    go_wp2_with (go_at_call 56; refine HC.out.mono ?_; rintro e w1 ⟨rfl, h1, h2, h3⟩; have H1 := Lib.hid (And.intro h1 (And.intro h2 h3)); clear h1 h2 h3)
    go_ret
    exact ⟨by rw [HZ.out.1]; rfl, by rw [HZ.out.2]; exact ⟨_, _, _, _, _, H1.out.1⟩, H1.out.2.1⟩
  · obtain rfl : E = 0 := by simpa using hne
    rw [if_neg (by simp)] at hz
    clear hne
    go_upto_region 4 with (go_at_call 56; refine HC.out.mono ?_; rintro e w1 ⟨rfl, h1, h2, h3⟩; have H1 := Lib.hid (And.intro h1 (And.intro h2 h3)); clear h1 h2 h3)
    obtain ⟨A, c, hnv, hat⟩ := H1.out.1.now_at
    have hfind := rf.find_any A c M1.now s w1 hat (by omega)
    have c2 := H1.out.1.blk.cell 2 (v := nv) rfl
    rw [hnv] at c2
    have hql := H1.out.1.blk.lt
    obtain ⟨n, hn⟩ : ∃ n, n = M1.now.length := ⟨_, rfl⟩
    rw [← hn] at hl' hfind c2 hnv
    have HN := Lib.hid (And.intro hn hnv); clear hn hnv hat
    rcases rf.place_look (l := M1.now) (s := s) with ⟨h1, h2⟩ | ⟨j, x, h1, -, h3, h4⟩
    · rw [h2] at hfind
      rw [h1] at hz
      dsimp only at hz
      rw [if_pos (by rw [hz]; decide)] at hMp
      have HZ := Lib.hid (And.intro hz hMp); clear hz hMp
      have HF := Lib.hid hfind; clear hfind h1 h2
      go_wp2_with (go_at_call 45; refine HF.out.mono ?_; rintro e w2 ⟨rfl, rfl⟩)
      go_ret
      exact ⟨by rw [HZ.out.1]; rfl, by rw [HZ.out.2]; exact ⟨_, _, _, _, _, H1.out.1⟩, H1.out.2.1⟩
    · rw [h4] at hfind
      rw [h3] at hz hMp
      dsimp only at hz hMp
      have hjl := (List.getElem?_eq_some_iff.1 h1).1
      rw [← HN.out.1] at hjl
      obtain ⟨y, gn, cn, gf, cf, e1, e2, e3, e4, hgn, hgf, d1, d2, d3, hrow, hxl⟩ := H1.out.1.led hwa h1
      obtain ⟨Ab, cb, hyv, hbc, -⟩ := own_at hrow
      have hbcm : cb ≤ maxLen := own_cap (hyv ▸ hrow)
      unfold maxLen at hbcm
      rw [hyv] at d2 hrow
      have c1 := H1.out.1.blk.cell 1 (v := fv) rfl
      rw [e2] at c1
      have hgnq : gn ≠ q := fun e => by subst e; exact H1.out.1.blk.not_row (by decide) H1.out.1.nrow (by rw [e1]; rfl)
      have GNQ := Lib.hid hgnq; clear hgnq
      obtain ⟨rfl, rfl⟩ : A = some ⟨gn, 0, none⟩ ∧ c = cn := by rw [HN.out.2, ← HN.out.1] at e1; simpa using e1
      have hGy : ∀ k, (Value.slice Ab y.v.data.length cb).ownBlock = some k → dk.grow G w w1 k := fun k hk => H1.out.1.foot.2.2.2.2.2 y (List.mem_of_getElem? e3) k (by rw [hyv]; exact hk)
      have hlx : M1.len x.2 = (y.v.data.length : Int) := by unfold RDisk.len; rw [← e4]
      rw [hlx] at hz
      rw [← e4] at hMp
      have hxf : x.2 < M1.files.length := (hwa.good x (List.mem_of_getElem? h1)).1
      have hnb4 : y.v.data.length ≤ 1099511627776 := by rw [e4]; exact (hwa.short _ (RDisk.file_mem hxf)).2.1
      obtain ⟨kx, hkx⟩ : ∃ kx, kx = x.2 := ⟨_, rfl⟩
      obtain ⟨nb, hnb⟩ : ∃ nb, nb = y.v.data.length := ⟨_, rfl⟩
      obtain ⟨nf, hnf⟩ : ∃ nf, nf = fs.length := ⟨_, rfl⟩
      obtain ⟨sf, hsf⟩ : ∃ sf : Nat, sf = y.v.safe := ⟨_, rfl⟩
      rw [← hkx] at d1 d2 d3 hMp hxl hxf
      rw [← hnb] at d2 hrow hbc hGy hz hnb4
      rw [← hnf] at c1 hxl
      rw [← hsf] at d3
      have HYR := Lib.hid (And.intro hrow hnb); clear hnb hrow
      have HF := Lib.hid hfind; clear hfind h1 h3 h4 e1 e2 e3 e4 hkx hyv hGy hnf hsf hlx
      have hjl' : (j : Int) < (n : Int) := by omega
      have hxl' : (kx : Int) < (nf : Int) := by omega
      have HZ := Lib.hid (And.intro hz hMp); clear hz hMp
      go_upto_region 7 with (go_at_call 45; refine HF.out.mono ?_; rintro e w2 ⟨rfl, rfl⟩)
      have p1 : ∀ x : Later w2 (fun _ => False), x.1.cell? ⟨q, 1, none⟩ = some (.slice (some ⟨gf, 0, none⟩) nf cf) := fun x => x.2.cellF c1 hql
      have p2 : ∀ x : Later w2 (fun _ => False), x.1.cell? ⟨q, 2, none⟩ = some (.slice (some ⟨gn, 0, none⟩) n c) := fun x => x.2.cellF c2 hql
      have p3 : ∀ x : Later w2 (fun _ => False), x.1.cell? ⟨gn, j * 2 + 1, none⟩ = some (.int .i64 (kx : Int)) := fun x => x.2.cellF d1 hgn
      have p4 : ∀ x : Later w2 (fun _ => False), x.1.cell? ⟨gf, kx * 2, none⟩ = some (.slice Ab nb cb) := fun x => x.2.cellF d2 hgf
      have p5 : ∀ x : Later w2 (fun _ => False), x.1.cell? ⟨gf, kx * 2 + 1, none⟩ = some (.int .i64 (sf : Int)) := fun x => x.2.cellF d3 hgf
      have t4 : w2.drew.cell? ⟨gf, kx * 2, none⟩ = some (.slice Ab nb cb) := d2
      have t5 : w2.drew.cell? ⟨gf, kx * 2 + 1, none⟩ = some (.int .i64 (sf : Int)) := d3
      have hS0 : later w2 (fun _ => False) w2.drew := later_of ((Chg.refl _ _).drew)
      refine wp_plan (S := fun w0 => ∃ x : Later w2 (fun _ => False), w0 = x.1) (by kernel_rfl) hS0 ?_
      intro hS' K5 hK5
      have HS := Lib.hid hS'; clear hS' hS0
      refine plan_group [true, true, true, true, true, true, true, true, true, true, true, true, true, true] [0, 1, 2, 3, 4, 5, 6, 7, 8, 9, 10, 11, 12, 13] 2 (by dsimp only [sel]) (by rfl) rfl (by kernel_rfl) (by kernel_rfl) HS.out ?_
      (repeat go_big_quiet_step (fail)); refine wpQuiet_nil ?_
      refine plan_one [false, false, false, false, false, false, false, false, false, false, false, false, false, false, true] 14 1 (by dsimp only [sel]) (by rfl) rfl (by kernel_rfl) ?_; intro K1 hK1; go_wp2_with fail
      refine ⟨later_of (Chg.alloc _ _ _).drew, ?_⟩
      refine plan_one [false, false, false, false, false, false, false, false, false, false, false, false, false, false, false, true] 15 0 (by dsimp only [sel]) (by rfl) rfl (by kernel_rfl) ?_; intro K1 hK1; go_wp2_with fail
      refine ⟨later_of (Chg.alloc _ _ _).drew, ?_⟩
      refine wp_plan_end (by kernel_rfl) ?_
      obtain ⟨w3, hw3⟩ : ∃ w3, w3 = (w2.alloc (.cells #[.slice Ab nb cb, .int .i64 (sf : Int)] 89)).drew := ⟨_, rfl⟩
      obtain ⟨g3, hg3⟩ : ∃ g3, g3 = w2.heap.size := ⟨_, rfl⟩
      have hc3 : Chg w2 w3 (fun _ => False) := by rw [hw3]; exact (Chg.alloc _ _ _).drew
      have hb3 : Blk w3 g3 89 #[.slice Ab nb cb, .int .i64 (sf : Int)] := by rw [hw3, hg3]; exact (Blk.new _ _ _).drew 1
      rw [← hw3, ← hg3]
      have hgnq : gn ≠ q := GNQ.out
      have hg3q : g3 ≠ q := by omega
      have HNE : Nonempty (LaterQ w3 (fun k => k = q) ⟨q, 2, none⟩ (.slice (some ⟨gn, 0, none⟩) n c)) := ⟨⟨w3, Chg.refl _ _, hc3.cellF c2 hql⟩⟩
      have r2 : ∀ x : LaterQ w3 (fun k => k = q) ⟨q, 2, none⟩ (.slice (some ⟨gn, 0, none⟩) n c), x.1.cell? ⟨q, 2, none⟩ = some (.slice (some ⟨gn, 0, none⟩) n c) := fun x => x.2.2
      have r3 : ∀ x : LaterQ w3 (fun k => k = q) ⟨q, 2, none⟩ (.slice (some ⟨gn, 0, none⟩) n c), x.1.cell? ⟨gn, j * 2 + 1, none⟩ = some (.int .i64 (kx : Int)) := fun x => x.2.1.cellP (hc3.cellF d1 hgn) (Nat.lt_of_lt_of_le hgn hc3.size) hgnq
      have r4 : ∀ x : LaterQ w3 (fun k => k = q) ⟨q, 2, none⟩ (.slice (some ⟨gn, 0, none⟩) n c), x.1.cell? ⟨g3, 0, none⟩ = some (.slice Ab nb cb) := fun x => (x.2.1.blk hb3 hg3q).cell 0 rfl
      have r5 : ∀ x : LaterQ w3 (fun k => k = q) ⟨q, 2, none⟩ (.slice (some ⟨gn, 0, none⟩) n c), x.1.cell? ⟨g3, 1, none⟩ = some (.int .i64 (sf : Int)) := fun x => (x.2.1.blk hb3 hg3q).cell 1 rfl
      have hS3 : ∃ x : LaterQ w3 (fun k => k = q) ⟨q, 2, none⟩ (.slice (some ⟨gn, 0, none⟩) n c), w3.drew = x.1 := laterQ_of ((Chg.refl _ _).drew) (hc3.cellF c2 hql)
      have HS3 := Lib.hid hS3; clear hS3
      have u4 : w3.cell? ⟨g3, 0, none⟩ = some (.slice Ab nb cb) := hb3.cell 0 rfl
      have u5 : w3.cell? ⟨g3, 1, none⟩ = some (.int .i64 (sf : Int)) := hb3.cell 1 rfl
      have hg3l := hb3.lt
      have hql3 : q < w3.heap.size := Nat.lt_of_lt_of_le hql hc3.size
      have C2 := Lib.hid c2
      have HC3 := Lib.hid (And.intro hc3 hb3); clear hc3 hb3 hw3 hg3 p1 p2 p3 p4 p5 t4 t5 c1 c2 d1 d2 d3
      by_cases hb1 : N < 0
      · have g1 : decide (N < 0) = true := decide_eq_true hb1
        have hz := HZ.out.1
        have hMp := HZ.out.2
        rw [if_pos (.inl hb1)] at hz
        rw [if_pos (by rw [hz]; decide)] at hMp
        have HZ2 := Lib.hid (And.intro hz hMp); clear hz hMp
        go_wp2_with fail
        go_ret
        exact ⟨by rw [HZ2.out.1]; rfl, by rw [HZ2.out.2]; exact ⟨_, _, _, _, _, (H1.out.1.keep HC3.out.1 fun _ _ q => q).wide (fun k hk => ⟨hk.1, Nat.lt_of_lt_of_le hk.2 HC3.out.1.size⟩) fun _ hk => hk.2⟩, H1.out.2.1.trans (HC3.out.1.mono fun _ _ q => q.elim) fun _ _ q => q⟩
      by_cases hb2 : (nb : Int) < N
      · have g1 : decide (N < 0) = false := decide_eq_false hb1
        have g2 : decide ((nb : Int) < N) = true := decide_eq_true hb2
        have hz := HZ.out.1
        have hMp := HZ.out.2
        rw [if_pos (.inr hb2)] at hz
        rw [if_pos (by rw [hz]; decide)] at hMp
        have HZ2 := Lib.hid (And.intro hz hMp); clear hz hMp
        go_wp2_with fail
        go_ret
        exact ⟨by rw [HZ2.out.1]; rfl, by rw [HZ2.out.2]; exact ⟨_, _, _, _, _, (H1.out.1.keep HC3.out.1 fun _ _ q => q).wide (fun k hk => ⟨hk.1, Nat.lt_of_lt_of_le hk.2 HC3.out.1.size⟩) fun _ hk => hk.2⟩, H1.out.2.1.trans (HC3.out.1.mono fun _ _ q => q.elim) fun _ _ q => q⟩
      have g1 : decide (N < 0) = false := decide_eq_false hb1
      have g2 : decide ((nb : Int) < N) = false := decide_eq_false hb2
      have hz := HZ.out.1
      have hMp := HZ.out.2
      rw [if_neg (fun h => h.elim hb1 hb2)] at hz
      rw [if_neg (by rw [hz]; simp)] at hMp
      obtain ⟨k, hkn⟩ : ∃ k : Nat, N = (k : Int) := ⟨N.toNat, by omega⟩
      subst hkn
      rw [Int.toNat_natCast] at hMp
      have hkl : k ≤ nb := by omega
      have HZ2 := Lib.hid (And.intro hz hMp); clear hz hMp HZ
      obtain ⟨i0, hi, hz0, hz1, hz2⟩ := info_parts infoByte
      have HIB := Lib.hid (And.intro hi (And.intro hz0 (And.intro hz1 hz2))); clear hi hz0 hz1 hz2
      go_upto_region 10 with fail
      have hm5 : (w3.alloc (.cells #[] 5)).drew.ownsRow w3.heap.size 5 1 (.slice (some ⟨w3.heap.size, 0, none⟩) 0 0) 0 [] := World.ownsRow_made w3 #[] 0 (Nat.le_refl _) (by unfold maxLen; omega) (by simp)
      have hba : Below w3.heap.size w3 (w3.alloc (.cells #[] 5)).drew := bdrew ((Below.refl _ _).alloc (Nat.le_refl _) _) 1
      have hsrc : At (w3.alloc (.cells #[] 5)).drew Ab k (byteAt (y.v.data.take k)) := by
        obtain ⟨A8, c8, e8, -, -, h8⟩ := own_bytes HYR.out.1
        obtain ⟨rfl, rfl⟩ : Ab = A8 ∧ cb = c8 := by simpa using e8
        refine ((((h8.le hkl).congr fun j hj => ?_).at_chg HC3.out.1).below (w := w3) hba (Nat.le_refl _))
        unfold byteAt
        simp [List.getD, hj]
      have HM5 := Lib.hid (And.intro hm5 (And.intro hba hsrc)); clear hm5 hba hsrc
      have hbl : (y.v.data.take k).length = k := by rw [List.length_take, ← HYR.out.2]; omega
      have HBL := Lib.hid hbl; clear hbl
      have hS0 := HS3.out
      refine wp_plan (S := fun w0 => ∃ x : LaterQ w3 (fun k => k = q) ⟨q, 2, none⟩ (.slice (some ⟨gn, 0, none⟩) n c), w0 = x.1) (by kernel_rfl) hS0 ?_
      intro hS' K6 hK6
      have HS := Lib.hid hS'; clear hS' hS0
      refine plan_group [true, true, true, true, true, true, true, true, true, false, true, true, true, true, false, true] [0, 1, 2, 3, 4, 5, 6, 7, 8, 10, 11, 12, 13, 15] 3 (by dsimp only [sel]) (by rfl) rfl (by kernel_rfl) (by kernel_rfl) HS.out ?_
      (repeat go_big_quiet_step (fail)); refine wpQuiet_nil ?_
      refine plan_one [false, false, false, false, false, false, false, false, false, true] 9 2 (by dsimp only [sel]) (by rfl) rfl (by kernel_rfl) ?_; intro K1 hK1; go_wp2_with fail
      obtain ⟨w4, hw4⟩ : ∃ w4, w4 = (w3.alloc (.cells #[] 5)).drew := ⟨_, rfl⟩
      have hd4 : w3.drew.heap.size = w3.heap.size := rfl
      rw [← hw4] at HM5 ⊢
      clear hw4
      refine ⟨laterQ_of (chg_of HM5.out.2.1) ((HM5.out.2.1.cell (p := ⟨q, 2, none⟩) hql3).trans (HC3.out.1.cellF C2.out hql)), ?_⟩
      refine plan_one [false, false, false, false, false, false, false, false, false, false, false, false, false, false, true] 14 1 (by dsimp only [sel]) (by rfl) rfl (by kernel_rfl) ?_; intro K1 hK1
      go_wp2_with (at_builtin; go_loud (refine wpList_app2 _ rfl (.tmp 57) (.tmp 61) 34 rfl w3.heap.size 5 i0 _ 1 1 Try.underlying34 HIB.out.1 HIB.out.2.1 HIB.out.2.2.1 HIB.out.2.2.2 rfl (by decide) _ 0 [] rfl HM5.out.1 Ab k cb (byteAt (y.v.data.take k)) rfl (by rw [Nat.mul_one]; exact HM5.out.2.2) (fun j _ => byteAt_one _ j) (by unfold maxLen; omega) (by omega) (by have := HM5.out.2.1.size; omega) ?_); intro v5 w5 hown hg hl; rw [List.nil_append, byteAt_cells_n _ k HBL.out, Nat.zero_add] at hown; have hb5 : Below w3.heap.size w3 w5 := HM5.out.2.1.grown hg HM5.out.2.1.size (fun g hg => (HM5.out.1.lt g hg).1); obtain ⟨A5, c5, hv5, -⟩ := own_at hown; subst hv5; have H5 := Lib.hid (And.intro hown hb5); clear hown hg hl hb5)
      refine ⟨laterQ_of (chg_of H5.out.2) ((H5.out.2.cell (p := ⟨q, 2, none⟩) hql3).trans (HC3.out.1.cellF C2.out hql)), ?_⟩
      go_simp
      have hset := rf.set_on q M1 (dk.grow G w w2) fs fv nv sv av kx A5 c5 ⟨y.v.data.take k, k⟩ w2 w5 H1.out.1 (HC3.out.1.trans (chg_of (P := fun _ => False) H5.out.2) fun _ _ q => q) hxf (by omega) (by dsimp only; rw [HBL.out]; exact ownsRow_base H5.out.1 (Nat.zero_le _)) (by dsimp only; rw [HBL.out]; exact fun g hg => .inr (Nat.le_trans HC3.out.1.size (H5.out.1.lt g hg).1))
      dsimp only at hset
      rw [HBL.out] at hset
      have HST := Lib.hid hset; clear hset
      refine plan_one [false, false, false, false, false, false, false, false, false, false, false, false, false, false, false, false, true] 16 0 (by dsimp only [sel]) (by rfl) rfl (by kernel_rfl) ?_; intro K1 hK1; go_wp2_with fail
      refine HST.out.mono ?_
      rintro e w9 ⟨rfl, ⟨fs9, fv9, h1⟩, h2⟩
      have hc39 : Chg w3 w9 (fun k => k = q) := (chg_of (P := fun k => k = q) H5.out.2).trans h2 fun _ _ q => q
      have hlast : ∃ x : LaterQ w3 (fun k => k = q) ⟨q, 2, none⟩ (.slice (some ⟨gn, 0, none⟩) n c), w9 = x.1 := laterQ_of hc39 (by rw [← HN.out.2]; exact h1.blk.cell 2 (v := nv) rfl)
      have hcw : Chg w2 w9 (fun k => k = q) := (HC3.out.1.mono fun _ _ q => q.elim).trans hc39 fun _ _ q => q
      have H9 := Lib.hid (And.intro h1 (And.intro hcw hlast)); clear h1 h2 hcw hlast hc39
      go_wp2_with fail
      refine ⟨H9.out.2.2, ?_⟩
      refine wp_plan_end (by kernel_rfl) ?_
      go_wp2_with fail
      go_ret
      exact ⟨by rw [HZ2.out.1]; rfl, by rw [HZ2.out.2]; exact ⟨_, _, _, _, _, H9.out.1.grown (by rw [H1.out.2.2]; omega)⟩, H1.out.2.1.trans H9.out.2.1 fun _ _ q => q⟩
end
section
open Go.RowKit Go.Maps
set_option maxRecDepth 100000

/-- A new file begins under a name. -/
theorem RDisk.begin_wf {M : RDisk} (hw : M.WF) {s : ByteArray} {v : FileV} (hs : dk.okName s = true) (hi : rd.look M.now s = none) (hv : v.safe ≤ v.data.length ∧ v.data.length ≤ 1099511627776 ∧ ∀ x ∈ v.data, x < 256) : ((M.add v).lead ⟨1, s, dk.no, M.files.length⟩).WF ∧ ((M.add v).lead ⟨1, s, dk.no, M.files.length⟩).now = rd.ins M.now s M.files.length := by
  have hwadd := RDisk.add_wf hw hv
  have hl : (M.add v).files.length = M.files.length + 1 := by unfold RDisk.add; simp
  have hok : RAct.ok ⟨1, s, dk.no, M.files.length⟩ (M.add v).files.length := ⟨.inl rfl, hs, fun q => (by cases q), fun _ => (by rw [hl]; exact Nat.lt_succ_self _)⟩
  have happ : rd.apply (M.add v).now ⟨1, s, dk.no, M.files.length⟩ = rd.ins M.now s M.files.length := by
    unfold rd.apply
    rw [if_pos rfl]
    unfold rd.with
    rw [show rd.without (M.add v).now s = M.now from rd.without_none hi]
  have hnd : ((rd.apply (M.add v).now ⟨1, s, dk.no, M.files.length⟩).map Prod.snd).Nodup := by
    rw [happ]
    refine ((rd.ins_perm M.now s M.files.length).map Prod.snd).symm.nodup ?_
    rw [List.map_cons, List.nodup_cons]
    refine ⟨fun hm => ?_, hw.nodup⟩
    obtain ⟨x, hx, e⟩ := List.mem_map.1 hm
    have := (hw.good x hx).1
    omega
  exact ⟨RDisk.lead_wf hwadd hok hnd, happ⟩
theorem RDisk.app_begin {M : RDisk} {s : ByteArray} {b : List Nat} : (M.add ⟨b, 0⟩).lead ⟨1, s, dk.no, M.files.length⟩ = ((M.add ⟨[], 0⟩).lead ⟨1, s, dk.no, M.files.length⟩).set M.files.length ⟨((M.add ⟨[], 0⟩).lead ⟨1, s, dk.no, M.files.length⟩ |>.file M.files.length).data ++ b, ((M.add ⟨[], 0⟩).lead ⟨1, s, dk.no, M.files.length⟩ |>.file M.files.length).safe⟩ := by
  have hf : ((M.add ⟨[], 0⟩).lead ⟨1, s, dk.no, M.files.length⟩).file M.files.length = ⟨[], 0⟩ := RDisk.add_new
  rw [hf]
  unfold RDisk.set RDisk.lead RDisk.add
  dsimp only
  simp
theorem rd.idx_of {l : RNames} {s : ByteArray} {f : Nat} (h : (s, f) ∈ l) (hr : rd.Rises l) : ∃ j : Nat, l[j]? = some (s, f) ∧ rf.place l s = (j : Int) := by
  have hl := rd.mem_look hr h
  rcases rf.place_look (l := l) (s := s) with ⟨h1, -⟩ | ⟨j, x, h1, h2, h3, h4⟩
  · rw [hl] at h1; cases h1
  · rw [hl] at h3
    refine ⟨j, ?_, h4⟩
    have e : f = x.2 := by simpa using h3
    rw [h1, e, ← h2]
set_option maxHeartbeats 16000000 in
theorem rf.Append_any (s : ByteArray) (X : Option Addr) (m cX : Nat) (b : List Nat) (q : Nat) (M : RDisk) (G : Nat → Prop) (w : World) (h : RefD w q M G) (hw : M.WF) (hM : M.small) (hs : s.size ≤ maxLen) (hatX : At w X m (byteAt b)) (hbl : b.length = m) (hbb : ∀ x ∈ b, x < 256) (hX : ∀ g off, X = some ⟨g, off, none⟩ → 0 < m → g ≠ q) (hm : m ≤ 4294967296) (hl : M.now.length ≤ 90000) (hla : M.acts.length ≤ 90000) (hlf : M.files.length ≤ 90000) :
    Calls Try.prog 35 #[.pointer (some ⟨q, 0, none⟩), .string s, .slice X m cX] w fun e w' => e = .returned (.int .i64 (M.appE s b)) ∧ RefD w' q (M.app s b) (dk.grow G w w') ∧ Chg w w' (fun k => k = q) := by
  obtain ⟨fs, fv, nv, sv, av, h⟩ := h
  have hact := rf.act_one q M G fs fv nv sv av s w h hw hM hs
  have HC := Lib.hid hact; clear hact h
  have hwa := hw.acted
  have hla' : M.acted.acts.length ≤ 90000 := hla
  have hl' : M.acted.now.length ≤ 90000 := hl
  have hlf' : M.acted.files.length ≤ 90000 := hlf
  obtain ⟨z, hz⟩ : ∃ z, z = M.appE s b := ⟨_, rfl⟩
  obtain ⟨M', hMp⟩ : ∃ M', M' = M.app s b := ⟨_, rfl⟩
  rw [← hz, ← hMp]
  unfold RDisk.app at hMp
  rw [← hz] at hMp
  unfold RDisk.appE at hz
  have hok : M.actE [s] = 0 → dk.okName s = true := fun e => RDisk.actE_ok e s (by simp)
  obtain ⟨E, hE⟩ : ∃ E, E = M.actE [s] := ⟨_, rfl⟩
  rw [← hE] at hz HC hok
  obtain ⟨M1, hM1⟩ : ∃ M1, M1 = M.acted := ⟨_, rfl⟩
  rw [← hM1] at HC hMp hwa hla' hl' hlf'
  have hnow : M.now = M1.now := by rw [hM1]; rfl
  have hfile : M.file = M1.file := by rw [hM1]; rfl
  have husd : M.used = M1.used := by rw [hM1]; rfl
  have hroom : M.room = M1.room := by rw [hM1]; rfl
  have hfil : M.files = M1.files := by rw [hM1]; rfl
  rw [husd, hroom, hbl] at hz
  rw [hnow, hfile, hfil] at hMp
  clear hE hM1 hnow hfile hl hla hlf husd hroom hfil
  have HX := Lib.hid (And.intro hatX (And.intro hbl (And.intro hbb hX))); clear hatX hbl hbb hX
  go_enter Try.func35, Try.ntmps35
  by_cases hne : E ≠ 0
  · rw [if_pos hne] at hz
    rw [if_pos (by rw [hz]; exact hne)] at hMp
    have HZ := Lib.hid (And.intro hz hMp); clear hz hMp
    have g2 : decide (E = 0) = false := decide_eq_false hne
    have g3 : (E == 0) = false := by simpa using hne
    clear hne
    go_wp2_with (go_at_call 56; refine HC.out.mono ?_; rintro e w1 ⟨rfl, h1, h2, h3⟩; have H1 := Lib.hid (And.intro h1 (And.intro h2 h3)); clear h1 h2 h3)
    go_ret
    exact ⟨by rw [HZ.out.1]; rfl, by rw [HZ.out.2]; exact ⟨_, _, _, _, _, H1.out.1⟩, H1.out.2.1⟩
  obtain rfl : E = 0 := by simpa using hne
  rw [if_neg (by simp)] at hz
  have HOK := Lib.hid (hok rfl); clear hne hok
  go_upto_region 4 with (go_at_call 56; refine HC.out.mono ?_; rintro e w1 ⟨rfl, h1, h2, h3⟩; have H1 := Lib.hid (And.intro h1 (And.intro h2 h3)); clear h1 h2 h3)
  have hus := rf.Used_any q M1 (dk.grow G w w1) w1.drew (RefD.keep ⟨_, _, _, _, _, H1.out.1⟩ ((Chg.refl w1 (fun _ => False)).drew) fun _ _ q => q) hwa (by omega)
  have hup := M1.used_pos
  have hule := hwa.used_le
  have hfit := hwa.fit
  obtain ⟨used, hused⟩ : ∃ used, used = M1.used := ⟨_, rfl⟩
  obtain ⟨room, hroom⟩ : ∃ room, room = M1.room := ⟨_, rfl⟩
  have c0 := H1.out.1.blk.cell 0 (v := .int .i64 M1.room) rfl
  have hq1 := H1.out.1.blk
  rw [← hused] at hus hup hule hz
  rw [← hroom] at c0 hfit hz
  have hq0 : ∀ x : Later w1 (fun _ => False), x.1.cell? ⟨q, 0, none⟩ = some (.int .i64 room) := fun x => by
    have := (x.2.blk hq1 id).cell 0 (v := .int .i64 M1.room) rfl
    rw [hroom]
    exact this
  have hql := hq1.lt
  have HUS := Lib.hid (And.intro hus (And.intro hused hroom)); clear hus hused hroom hq1
  have hub : 0 ≤ used ∧ used ≤ 98956046499840000 := by omega
  clear hule hup
  have hS0 : later w1 (fun _ => False) w1.drew := later_of ((Chg.refl _ _).drew)
  refine wp_plan (S := fun w0 => ∃ x : Later w1 (fun _ => False), w0 = x.1) (by kernel_rfl) hS0 ?_
  intro hS' K5 hK5
  have HS := Lib.hid hS'; clear hS' hS0
  refine plan_group [true, false, true, true, false, true, true, true, true] [0, 2, 3, 5, 6, 7, 8] 3 (by dsimp only [sel]) (by rfl) rfl (by kernel_rfl) (by kernel_rfl) HS.out ?_
  (repeat go_big_quiet_step (fail)); refine wpQuiet_nil ?_
  refine plan_one [false, true] 1 2 (by dsimp only [sel]) (by rfl) rfl (by kernel_rfl) ?_; intro K1 hK1; go_wp2_with fail
  refine HUS.out.1.mono ?_
  rintro e w2 ⟨rfl, h1, h2⟩
  have hc2 : Chg w1 w2 (fun _ => False) := ((Chg.refl w1 (fun _ => False)).drew).trans (chg_of h1) fun _ _ q => q
  have hs2 : w2.heap.size = w1.heap.size := h2
  have H2 := Lib.hid (And.intro hc2 hs2); clear hc2 hs2 h1 h2
  go_wp2_with fail
  refine ⟨later_of H2.out.1, ?_⟩
  have hS2 : later w1 (fun _ => False) w2 := later_of H2.out.1
  by_cases hfull : room < used + (m : Int)
  · have g4 : decide (room < used + (m : Int)) = true := decide_eq_true hfull
    rw [if_pos hfull] at hz
    rw [if_pos (by rw [hz]; decide)] at hMp
    have HZ := Lib.hid (And.intro hz hMp); clear hz hMp
    refine plan_group [false, false, false, false, true, false, false, false, false, true] [4, 9] 0 (by dsimp only [sel]) (by rfl) rfl (by kernel_rfl) (by kernel_rfl) hS2 ?_
    (repeat go_big_quiet_step (fail)); refine wpQuiet_nil ?_
    refine wp_plan_end (by kernel_rfl) ?_
    go_wp2_with fail
    go_ret
    exact ⟨by rw [HZ.out.1]; rfl, by rw [HZ.out.2]; exact ⟨_, _, _, _, _, (H1.out.1.keep H2.out.1 fun _ _ q => q).wide (fun k hk => ⟨hk.1, by rw [H2.out.2]; exact hk.2⟩) fun _ hk => hk.2⟩, H1.out.2.1.trans (H2.out.1.mono fun _ _ q => q.elim) fun _ _ q => q⟩
  have g4 : decide (room < used + (m : Int)) = false := decide_eq_false hfull
  rw [if_neg hfull] at hz
  rw [if_neg (by rw [hz]; simp)] at hMp
  have HZ := Lib.hid (And.intro hz hMp); clear hz hMp
  refine plan_group [false, false, false, false, true, false, false, false, false, true] [4, 9] 0 (by dsimp only [sel]) (by rfl) rfl (by kernel_rfl) (by kernel_rfl) hS2 ?_
  (repeat go_big_quiet_step (fail)); refine wpQuiet_nil ?_
  refine wp_plan_end (by kernel_rfl) ?_
  have hr2 : RefAt w2 q M1 (dk.grow G w w2) fs fv nv sv av := (H1.out.1.keep H2.out.1 fun _ _ q => q).wide (fun k hk => ⟨hk.1, by rw [H2.out.2]; exact hk.2⟩) fun _ hk => hk.2
  have hcw2 : Chg w w2 (fun k => k = q) := H1.out.2.1.trans (H2.out.1.mono fun _ _ q => q.elim) fun _ _ q => q
  have hsz2 : w2.heap.size = w.heap.size + 1 := by rw [H2.out.2, H1.out.2.2]
  have R2 := Lib.hid (And.intro hr2 (And.intro hcw2 hsz2)); clear hr2 hcw2 hsz2 c0 hq0 hS2 HS H1 H2 HC HUS
  obtain ⟨A, c, hnv, hat⟩ := R2.out.1.now_at
  have hfind := rf.find_any A c M1.now s w2 hat (by omega)
  have c2 := R2.out.1.blk.cell 2 (v := nv) rfl
  have hql2 := R2.out.1.blk.lt
  obtain ⟨n, hn⟩ : ∃ n, n = M1.now.length := ⟨_, rfl⟩
  rw [hnv] at c2
  rw [← hn] at hl' hfind c2 hnv
  have HN := Lib.hid (And.intro hn hnv); clear hn hnv hat
  have HF := Lib.hid hfind; clear hfind
  go_upto_if 35 with (go_at_call 45; refine HF.out.mono ?_; rintro e w3 ⟨rfl, rfl⟩)
  clear c2 hql2
  go_cut [8] from 33 to 63 (fun s8 wx => ∃ (j : Nat) (x : ByteArray × Nat) (M2 : RDisk) (fs2 : List RFil) (fv2 nv2 sv2 av2 : Value), s8 = .int .i64 (j : Int) ∧ M2.now[j]? = some x ∧ RefAt wx q M2 (dk.grow G w wx) fs2 fv2 nv2 sv2 av2 ∧ Chg w wx (fun k => k = q) ∧ M2.WF ∧ M2.files.length ≤ 90001 ∧ M2.now.length ≤ 90001 ∧ M' = M2.set x.2 ⟨(M2.file x.2).data ++ b, (M2.file x.2).safe⟩)
  case first =>
    rcases rf.place_look (l := M1.now) (s := s) with ⟨h1, h2⟩ | ⟨j, x, h1, -, h3, h4⟩
    · rw [h2]
      have hMp := HZ.out.2
      rw [h1] at hMp
      dsimp only at hMp
      rw [RDisk.app_begin] at hMp
      have hbg := RDisk.begin_wf hwa (v := ⟨[], 0⟩) HOK.out h1 ⟨Nat.le_refl _, Nat.zero_le _, fun x hx => by cases hx⟩
      have HBG := Lib.hid (And.intro hbg (And.intro hMp h1)); clear hbg hMp h1 h2
      have hfl : fs.length = M1.files.length := by rw [← R2.out.1.files, List.length_map]
      obtain ⟨i0, hinf, hz0, hz1, hz2⟩ := info_parts rf.infoFile
      have HI := Lib.hid (And.intro hinf (And.intro hz0 (And.intro hz1 hz2))); clear hinf hz0 hz1 hz2
      obtain ⟨Af, cf, hfv, hnc, hatf⟩ := own_at R2.out.1.frow
      have hone := rf.frow_one rfl R2.out.1.bytes
      obtain ⟨nf, hnf⟩ : ∃ nf, nf = fs.length := ⟨_, rfl⟩
      rw [← hnf] at hfl hfv hatf hone
      have HNF := Lib.hid (And.intro hnf.symm (And.intro hfl.symm hfv)); clear hnf
      have hnf9 : nf ≤ 90000 := by omega
      have c1 := R2.out.1.blk.cell 1 (v := fv) rfl
      rw [hfv] at c1
      clear hfl hfv hnc
      have HAF := Lib.hid (And.intro hatf hone); clear hatf hone
      have hql3 := R2.out.1.blk.lt
      have hm5 : (w3.alloc (.cells #[] 89)).ownsRow w3.heap.size 89 2 (.slice (some ⟨w3.heap.size, 0, none⟩) 0 0) 0 [] := World.ownsRow_made w3 #[] 0 (Nat.le_refl _) (by unfold maxLen; omega) (by simp)
      have HM5 := Lib.hid hm5; clear hm5
      go_upto_region 9 with (first
        | (at_builtin; (have _ := H4.out); go_loud (refine wpList_app2 _ rfl (.tmp 42) (.tmp 44) 47 rfl w3.heap.size 89 i0 _ 2 32 Try.underlying47 HI.out.1 HI.out.2.1 HI.out.2.2.1 HI.out.2.2.2 rfl (by decide) _ nf (rf.frow fs) rfl (H4.out.1.alloc _) (some ⟨w4.heap.size, 0, none⟩) 1 1 (fun j => ([.slice none 0 0, .int .i64 0] : List Value).getD j undef) rfl (rf.at_one (Blk.new w4 _ _)) (fun j hj => by match j, hj with | 0, _ => rfl | 1, _ => rfl) (by unfold maxLen; omega) (by omega) (by have := H4.out.2.size; simp; omega) ?_); intro v5 w5 hown hg hl; have hb5 : Below w3.heap.size w3 w5 := (H4.out.2.alloc H4.out.2.size _).grown hg (by have := H4.out.2.size; simp; omega) (fun g hg => (H4.out.1.lt g hg).1); obtain ⟨A5, c5, hv5, -⟩ := own_at hown; subst hv5; have H5 := Lib.hid (And.intro hown hb5); clear hown hg hl hb5; have t1 := (H5.out.2.cell (p := ⟨q, 1, none⟩) hql3).trans c1; have tb := ((chg_of (P := fun _ => False) H5.out.2).blk R2.out.1.blk id); have tz := tb.frozen 1; have tl := tb.lt; clear tb)
        | (at_builtin; go_loud (refine wpList_app2 _ rfl (.tmp 37) (.tmp 41) 47 rfl w3.heap.size 89 i0 _ 2 32 Try.underlying47 HI.out.1 HI.out.2.1 HI.out.2.2.1 HI.out.2.2.2 rfl (by decide) _ 0 [] rfl HM5.out Af nf cf (fun j => (rf.frow fs).getD j undef) rfl (HAF.out.1.alloc _) HAF.out.2 (by unfold maxLen; omega) (by omega) (by simp) ?_); intro v4 w4 hown hg hl; rw [List.nil_append, rf.frow_all HNF.out.1, Nat.zero_add] at hown; have hb4 : Below w3.heap.size w3 w4 := ((Below.refl _ w3).alloc (Nat.le_refl _) _).grown hg (by simp) (fun g hg => by cases hg; exact Nat.le_refl _); have H4 := Lib.hid (And.intro hown hb4); clear hown hg hl hb4))
      obtain ⟨w6, hw6⟩ : ∃ w6, w6 = w5.setCell ⟨q, 1, none⟩ (.slice A5 (nf + 1) c5) := ⟨_, rfl⟩
      rw [← hw6]
      have hq5 := (chg_of (P := fun _ => False) H5.out.2).blk R2.out.1.blk id
      have hq6 := hq5.set 1 (.slice A5 (nf + 1) c5)
      rw [← hw6] at hq6
      have hc56 : Chg w5 w6 (fun k => k = q) := by rw [hw6]; exact Chg.setCell _ _ _ _
      have ho6 := hc56.own H5.out.1 fun k hk e => by subst e; exact hq5.not_row (by decide) H5.out.1 hk
      have hc36 : Chg w3 w6 (fun k => k = q) := (chg_of (P := fun k => k = q) H5.out.2).trans hc56 fun _ _ q => q
      have hfr : rf.frow (fs ++ [⟨.slice none 0 0, ⟨[], 0⟩⟩]) = rf.frow fs ++ cellsOf (1 * 2) (fun j => ([.slice none 0 0, .int .i64 0] : List Value).getD j undef) := rf.frow_append fs _
      rw [← hfr] at ho6
      have hr6 : RefAt w6 q (M1.add ⟨[], 0⟩) (dk.grow (dk.grow G w w3) w3 w6) (fs ++ [⟨.slice none 0 0, ⟨[], 0⟩⟩]) (.slice A5 (nf + 1) c5) nv sv av := R2.out.1.next hc36 hq6 (.inr ⟨by rw [List.length_append, HNF.out.1]; exact ho6, by rw [List.map_append, R2.out.1.files]; rfl, fun x hx => by
        rcases List.mem_append.1 hx with hx | hx
        · exact .inl hx
        · rw [List.mem_singleton.1 hx]
          exact .inr (.inl (World.ownsRow_nil _ _ _ _))⟩) (.inl ⟨rfl, rfl⟩) (.inl ⟨rfl, rfl⟩) (.inl ⟨rfl, rfl⟩)
      have x1 := hq6.cell 1 (v := .slice A5 (nf + 1) c5) rfl
      have xl := hq6.lt
      have hwad := RDisk.add_wf hwa (v := ⟨[], 0⟩) ⟨Nat.le_refl _, Nat.zero_le _, fun x hx => by cases hx⟩
      have hnm := rf.names_any q (M1.add ⟨[], 0⟩) (dk.grow (dk.grow G w w3) w3 w6) ⟨1, s, dk.no, nf⟩ w6 ⟨_, _, _, _, _, hr6⟩ hwad (by show M1.now.length ≤ _; rw [← HN.out.1]; omega) (by show M1.acts.length ≤ _; omega)
      have hk1 : ((nf + 1 : Nat) : Int) - 1 = (nf : Int) := by omega
      have hk2 : (nf : Int) + 1 - 1 = (nf : Int) := by omega
      have hcw6 : Chg w w6 (fun k => k = q) := R2.out.2.1.trans hc36 fun _ _ q => q
      have HNM := Lib.hid (And.intro hnm (And.intro hcw6 (And.intro hc36.size hnm))); clear hnm hcw6 hr6 hwad hq5 hq6 hc56 ho6 hc36 hfr hw6 t1 tz tl c1 H4 H5 HM5
      have hbg := HBG.out
      rw [HNF.out.2.1] at hbg
      have HBG2 := Lib.hid hbg; clear hbg HBG
      go_upto_region 10 with (go_at_call 57; go_loud (refine HNM.out.1.mono ?_); rintro e w7 ⟨rfl, ⟨fs7, fv7, nv7, sv7, av7, h1⟩, h2⟩; have H7 := Lib.hid (And.intro h1 h2); clear h1 h2)
      obtain ⟨j, hj, hpl⟩ := rd.idx_of (l := ((M1.add ⟨[], 0⟩).lead ⟨1, s, dk.no, nf⟩).now) (s := s) (f := nf) (by rw [HBG2.out.1.2]; exact rd.mem_ins.2 (.inl rfl)) HBG2.out.1.1.rise
      obtain ⟨A7, c7, hnv7, hat7⟩ := H7.out.1.now_at
      have hn7 : ((M1.add ⟨[], 0⟩).lead ⟨1, s, dk.no, nf⟩).now.length = n + 1 := by rw [HBG2.out.1.2, rd.ins_len, ← HN.out.1]
      have hfind := rf.find_any A7 c7 _ s w7 hat7 (by rw [hn7]; omega)
      rw [hpl, hn7] at hfind
      rw [hn7] at hnv7
      have c2 := H7.out.1.blk.cell 2 (v := nv7) rfl
      rw [hnv7] at c2
      have hql7 := H7.out.1.blk.lt
      have HF2 := Lib.hid hfind; clear hfind hnv7 hat7 hpl
      have HFIN := Lib.hid (And.intro hj hn7); clear hj hn7
      go_wp2_with (go_at_call 45; refine HF2.out.mono ?_; rintro e w8 ⟨rfl, rfl⟩)
      go_meet
      case rel =>
        refine ⟨j, _, _, fs7, fv7, nv7, sv7, av7, rfl, HFIN.out.1, H7.out.1.wide (fun k hk => ⟨?_, hk.2⟩) (fun _ hk => hk.2), HNM.out.2.1.trans H7.out.2 fun _ _ q => q, HBG2.out.1.1, ?_, by rw [HFIN.out.2]; omega, HBG2.out.2.1⟩
        · rcases hk.1 with hk | hk
          · rcases hk.1 with hk | hk
            · exact hk.1
            · exact .inr (by have := R2.out.2.1.size; omega)
          · exact .inr (by have := R2.out.2.1.size; have := HNM.out.2.2.1; omega)
        · show (M1.files ++ [_]).length ≤ _
          rw [List.length_append]
          exact Nat.succ_le_succ hlf'
    · rw [h4]
      have hMp := HZ.out.2
      rw [h3] at hMp
      dsimp only at hMp
      have HMP := Lib.hid (And.intro hMp h1); clear hMp h1 h3 h4
      have hj0 : ¬ (j : Int) < 0 := by omega
      go_wp2_with fail
      go_meet
      case rel => exact ⟨j, x, M1, fs, fv, nv, sv, av, rfl, HMP.out.2, R2.out.1, R2.out.2.1, hwa, by omega, by rw [← HN.out.1]; omega, HMP.out.1⟩
  case rest =>
    obtain ⟨j, x, M2, fs2, fv2, nv2, sv2, av2, rfl, hx, hr, hcw, hw2, hlf2, hl2, hM2⟩ := hcut
    obtain ⟨y, gn, cn, gf, cf, e1, e2, e3, e4, hgn, hgf, d1, d2, d3, hrow, hxl⟩ := hr.led hw2 hx
    obtain ⟨Ab, cb, hyv, hbc, -⟩ := own_at hrow
    rw [hyv] at d2 hrow
    have c1 := hr.blk.cell 1 (v := fv2) rfl
    rw [e2] at c1
    have c2 := hr.blk.cell 2 (v := nv2) rfl
    rw [e1] at c2
    have hql := hr.blk.lt
    have hjl := (List.getElem?_eq_some_iff.1 hx).1
    have hxf : x.2 < M2.files.length := (hw2.good x (List.mem_of_getElem? hx)).1
    have hnb4 : y.v.data.length ≤ 1099511627776 := by rw [e4]; exact (hw2.short _ (RDisk.file_mem hxf)).2.1
    rw [← e4] at hM2
    obtain ⟨kx, hkx⟩ : ∃ kx, kx = x.2 := ⟨_, rfl⟩
    obtain ⟨nb, hnb⟩ : ∃ nb, nb = y.v.data.length := ⟨_, rfl⟩
    obtain ⟨nf, hnf⟩ : ∃ nf, nf = fs2.length := ⟨_, rfl⟩
    obtain ⟨sf, hsf⟩ : ∃ sf : Nat, sf = y.v.safe := ⟨_, rfl⟩
    obtain ⟨nn, hnn⟩ : ∃ nn, nn = M2.now.length := ⟨_, rfl⟩
    rw [← hkx] at d1 d2 d3 hM2 hxl hxf
    rw [← hnb] at d2 hrow hbc hnb4
    rw [← hnf] at c1 hxl
    rw [← hsf] at d3 hM2
    rw [← hnn] at c2 hjl hl2
    have HR := Lib.hid (And.intro hr (And.intro hcw (And.intro hM2 (And.intro hrow hnb)))); clear hr hcw hM2 hrow hnb e1 e2 e3 e4 hkx hyv hnf hsf hnn hx hw2
    have hjl' : (j : Int) < (nn : Int) := by omega
    have hxl' : (kx : Int) < (nf : Int) := by omega
    obtain ⟨i1, hi, hz0, hz1, hz2⟩ := info_parts infoByte
    have HIB := Lib.hid (And.intro hi (And.intro hz0 (And.intro hz1 hz2))); clear hi hz0 hz1 hz2
    go_upto_region 13 with fail
    obtain ⟨w3', hw3'⟩ : ∃ w3', w3' = wc.alloc (.cells #[.slice Ab nb cb, .int .i64 (sf : Int)] 89) := ⟨_, rfl⟩
    obtain ⟨g3, hg3⟩ : ∃ g3, g3 = wc.heap.size := ⟨_, rfl⟩
    have hc3 : Chg wc w3' (fun _ => False) := by rw [hw3']; exact Chg.alloc _ _ _
    have hb3 : Blk w3' g3 89 #[.slice Ab nb cb, .int .i64 (sf : Int)] := by rw [hw3', hg3]; exact Blk.new _ _ _
    rw [← hw3', ← hg3]
    have hg3q : g3 ≠ q := by omega
    have hg3l := hb3.lt
    have r4 : ∀ x : Later w3' (fun k => k = q), x.1.cell? ⟨g3, 0, none⟩ = some (.slice Ab nb cb) := fun x => (x.2.blk hb3 hg3q).cell 0 rfl
    have r5 : ∀ x : Later w3' (fun k => k = q), x.1.cell? ⟨g3, 1, none⟩ = some (.int .i64 (sf : Int)) := fun x => (x.2.blk hb3 hg3q).cell 1 rfl
    have hm5 : (w3'.alloc (.cells #[] 5)).drew.ownsRow w3'.heap.size 5 1 (.slice (some ⟨w3'.heap.size, 0, none⟩) 0 0) 0 [] := World.ownsRow_made w3' #[] 0 (Nat.le_refl _) (by unfold maxLen; omega) (by simp)
    have hba : Below w3'.heap.size w3' (w3'.alloc (.cells #[] 5)).drew := bdrew ((Below.refl _ _).alloc (Nat.le_refl _) _) 1
    have hsrc : At w3' Ab nb (byteAt y.v.data) := by
      obtain ⟨A8, c8, e8, -, -, h8⟩ := own_bytes HR.out.2.2.2.1
      obtain ⟨rfl, rfl⟩ : Ab = A8 ∧ cb = c8 := by simpa using e8
      exact h8.at_chg hc3
    have hcw3 : Chg w w3' (fun k => k = q) := HR.out.2.1.trans (hc3.mono fun _ _ q => q.elim) fun _ _ q => q
    have hsrc2 : At w3' X m (byteAt b) := hcw3.at' HX.out.1 fun h0 g off e hh => HX.out.2.2.2 g off e h0 hh
    have HM5 := Lib.hid (And.intro hm5 (And.intro hba (And.intro hsrc hsrc2))); clear hm5 hba hsrc hsrc2
    have HC3 := Lib.hid (And.intro hc3 hcw3); clear hc3 hcw3 hb3 hw3' hg3 d1 d2 d3 c1 c2
    have hS0 : later w3' (fun k => k = q) w3'.drew := later_of ((Chg.refl _ _).drew)
    refine wp_plan (S := fun w0 => ∃ x : Later w3' (fun k => k = q), w0 = x.1) (by kernel_rfl) hS0 ?_
    intro hS' K6 hK6
    have HS := Lib.hid hS'; clear hS' hS0
    refine plan_group [true, true, false, true, true, false, true, false, true, true] [0, 1, 3, 4, 6, 8, 9] 4 (by dsimp only [sel]) (by rfl) rfl (by kernel_rfl) (by kernel_rfl) HS.out ?_
    (repeat go_big_quiet_step (fail)); refine wpQuiet_nil ?_
    refine plan_one [false, false, true] 2 3 (by dsimp only [sel]) (by rfl) rfl (by kernel_rfl) ?_; intro K1 hK1; go_wp2_with fail
    obtain ⟨w4, hw4⟩ : ∃ w4, w4 = (w3'.alloc (.cells #[] 5)).drew := ⟨_, rfl⟩
    have hd4 : w3'.drew.heap.size = w3'.heap.size := rfl
    rw [← hw4] at HM5 ⊢
    clear hw4
    refine ⟨later_of (chg_of HM5.out.2.1), ?_⟩
    refine plan_one [false, false, false, false, false, true] 5 2 (by dsimp only [sel]) (by rfl) rfl (by kernel_rfl) ?_; intro K1 hK1
    go_wp2_with (at_builtin; go_loud (refine wpList_app2 _ rfl (.tmp 81) (.tmp 83) 34 rfl w3'.heap.size 5 i1 _ 1 1 Try.underlying34 HIB.out.1 HIB.out.2.1 HIB.out.2.2.1 HIB.out.2.2.2 rfl (by decide) _ 0 [] rfl HM5.out.1 Ab nb cb (byteAt y.v.data) rfl (by rw [Nat.mul_one]; exact HM5.out.2.2.1.below HM5.out.2.1 (Nat.le_refl _)) (fun j _ => byteAt_one _ j) (by unfold maxLen; omega) (by omega) (by have := HM5.out.2.1.size; omega) ?_); intro v5 w5 hown hg hl; rw [List.nil_append, byteAt_cells_n _ nb HR.out.2.2.2.2.symm, Nat.zero_add] at hown; have hb5 : Below w3'.heap.size w3' w5 := HM5.out.2.1.grown hg HM5.out.2.1.size (fun g hg => (HM5.out.1.lt g hg).1); obtain ⟨A5, c5, hv5, -⟩ := own_at hown; subst hv5; have H5 := Lib.hid (And.intro hown hb5); clear hown hg hl hb5)
    refine ⟨later_of (chg_of H5.out.2), ?_⟩
    go_simp
    refine plan_one [false, false, false, false, false, false, false, true] 7 1 (by dsimp only [sel]) (by rfl) rfl (by kernel_rfl) ?_; intro K1 hK1
    go_wp2_with (at_builtin; go_loud (refine wpList_app2 _ rfl (.tmp 84) (.tmp 85) 34 rfl w3'.heap.size 5 i1 _ 1 1 Try.underlying34 HIB.out.1 HIB.out.2.1 HIB.out.2.2.1 HIB.out.2.2.2 rfl (by decide) _ nb (u8s y.v.data) rfl H5.out.1 X m cX (byteAt b) rfl (by rw [Nat.mul_one]; exact HM5.out.2.2.2.below H5.out.2 (Nat.le_refl _)) (fun j _ => byteAt_one _ j) (by unfold maxLen; omega) (by omega) (by have := H5.out.2.size; omega) ?_); intro v6 w6 hown hg hl; rw [byteAt_cells_n _ m HX.out.2.1, ← u8s_append] at hown; have hb6 : Below w3'.heap.size w3' w6 := H5.out.2.grown hg H5.out.2.size (fun g hg => (H5.out.1.lt g hg).1); obtain ⟨A6, c6, hv6, -⟩ := own_at hown; subst hv6; have H6 := Lib.hid (And.intro hown hb6); clear hown hg hl hb6)
    refine ⟨later_of (chg_of H6.out.2), ?_⟩
    go_simp
    have hal : (y.v.data ++ b).length = nb + m := by rw [List.length_append, ← HR.out.2.2.2.2, HX.out.2.1]
    have hset := rf.set_on q M2 (dk.grow G w wc) fs2 fv2 nv2 sv2 av2 kx A6 c6 ⟨y.v.data ++ b, sf⟩ wc w6 HR.out.1 (HC3.out.1.trans (chg_of (P := fun _ => False) H6.out.2) fun _ _ q => q) hxf (by omega) (by dsimp only; rw [hal]; exact ownsRow_base H6.out.1 (Nat.zero_le _)) (by dsimp only; rw [hal]; exact fun g hg => .inr (Nat.le_trans HC3.out.1.size (H6.out.1.lt g hg).1))
    dsimp only at hset
    rw [hal] at hset
    clear hal
    have HST := Lib.hid hset; clear hset
    refine plan_one [false, false, false, false, false, false, false, false, false, false, true] 10 0 (by dsimp only [sel]) (by rfl) rfl (by kernel_rfl) ?_; intro K1 hK1; go_wp2_with fail
    refine HST.out.mono ?_
    rintro e w9 ⟨rfl, ⟨fs9, fv9, h1⟩, h2⟩
    have hc39 : Chg w3' w9 (fun k => k = q) := (chg_of (P := fun k => k = q) H6.out.2).trans h2 fun _ _ q => q
    have H9 := Lib.hid (And.intro h1 hc39); clear h1 h2 hc39
    go_wp2_with fail
    refine ⟨later_of H9.out.2, ?_⟩
    refine wp_plan_end (by kernel_rfl) ?_
    go_wp2_with fail
    go_ret
    refine ⟨by rw [HZ.out.1]; rfl, ?_, HC3.out.2.trans H9.out.2 fun _ _ q => q⟩
    rw [HR.out.2.2.1]
    exact ⟨_, _, _, _, _, H9.out.1.grown HR.out.2.1.size⟩
end
end Go.Proofs.Ythffkbcjidbdaaa

/- batch: contracts of Same, the document's and the program's. -/
import Derived.Test.YtahncanmfjmfnaaLmA
import Derived.Test.YtahncanmfjmfnaaConv
import Derived.Test.YtahncanmfjmfnaaPlanC
namespace Go.Proofs.Ytahncanmfjmfnaa
open Go.RowKit

theorem text_ne5 {a b : ByteArray} (h : a ≠ b) : (a.toList == b.toList) = false := by
  rw [Bool.eq_false_iff]
  intro e
  rw [beq_iff_eq, ByteArray.toList_eq, ByteArray.toList_eq] at e
  exact h (ByteArray.ext (Array.ext' e))
/-- The same record? -/
def Rec.Same (r s : Rec) : Prop := r.off = s.off ∧ r.time = s.time ∧ r.hasKey = s.hasKey ∧ strOf r.key = strOf s.key ∧ r.hasVal = s.hasVal ∧ strOf r.val = strOf s.val
instance (r s : Rec) : Decidable (r.Same s) := by unfold Rec.Same; infer_instance
theorem Rec.Same.symm {r s : Rec} (h : r.Same s) : s.Same r := by
  obtain ⟨h1, h2, h3, h4, h5, h6⟩ := h
  exact ⟨h1.symm, h2.symm, h3.symm, h4.symm, h5.symm, h6.symm⟩
theorem same_no {r s : Rec} (h : ¬ r.Same s) : Ending.returned (.bool false) = Ending.returned (.bool (decide (r.Same s))) := by rw [decide_eq_false h]
theorem same_yes {r s : Rec} (h : r.Same s) : Ending.returned (.bool true) = Ending.returned (.bool (decide (r.Same s))) := by rw [decide_eq_true h]
theorem two_boxes {w : World} (a b : Obj) : Below w.heap.size w ((w.alloc a).alloc b) :=
  have h := (Below.refl w.heap.size w).alloc (Nat.le_refl _) a
  h.alloc h.size b

set_option maxRecDepth 20000 in
set_option maxHeartbeats 4000000 in
theorem ref.samerec_any (r s : Rec) (Ak : Option Addr) (ck : Nat) (Av : Option Addr) (cv : Nat) (Bk : Option Addr) (dk : Nat) (Bv : Option Addr) (dv : Nat) (w : World)
    (h1 : At w Ak r.key.length (byteAt r.key)) (h2 : At w Av r.val.length (byteAt r.val)) (h3 : At w Bk s.key.length (byteAt s.key)) (h4 : At w Bv s.val.length (byteAt s.val)) :
    Calls Try.prog 36 #[r.hval Ak ck Av cv, s.hval Bk dk Bv dv] w fun e w' => e = .returned (.bool (decide (r.Same s))) ∧ Below w.heap.size w w' := by
  obtain ⟨D, hD⟩ : ∃ D : Bool, D = decide (r.Same s) := ⟨_, rfl⟩
  rw [← hD]
  have hb := two_boxes (w := w) (.cells #[.int .i64 r.off, .int .i64 r.time, .bool r.hasKey, .slice Ak r.key.length ck, .bool r.hasVal, .slice Av r.val.length cv] 44) (.cells #[.int .i64 s.off, .int .i64 s.time, .bool s.hasKey, .slice Bk s.key.length dk, .bool s.hasVal, .slice Bv s.val.length dv] 44)
  have hc1 := conv_any (P := Try.prog) (c := ck) Try.underlying33 Try.underlying5 Try.underlying9 r.key rfl (h1.below hb (Nat.le_refl _))
  have hc2 := conv_any (P := Try.prog) (c := dk) Try.underlying33 Try.underlying5 Try.underlying9 s.key rfl (h3.below hb (Nat.le_refl _))
  have hc3 := conv_any (P := Try.prog) (c := cv) Try.underlying33 Try.underlying5 Try.underlying9 r.val rfl (h2.below hb (Nat.le_refl _))
  have hc4 := conv_any (P := Try.prog) (c := dv) Try.underlying33 Try.underlying5 Try.underlying9 s.val rfl (h4.below hb (Nat.le_refl _))
  clear hb h1 h2 h3 h4
  obtain ⟨ro, rt, rhk, rk, rhv, rv⟩ := r
  obtain ⟨so, st, shk, sk, shv, sv⟩ := s
  unfold Rec.hval at *
  dsimp only at *
  obtain ⟨k1, hk1⟩ : ∃ k1, k1 = strOf rk := ⟨_, rfl⟩
  obtain ⟨k2, hk2⟩ : ∃ k2, k2 = strOf sk := ⟨_, rfl⟩
  obtain ⟨v1, hv1⟩ : ∃ v1, v1 = strOf rv := ⟨_, rfl⟩
  obtain ⟨v2, hv2⟩ : ∃ v2, v2 = strOf sv := ⟨_, rfl⟩
  have hno : ¬ (ro = so ∧ rt = st ∧ rhk = shk ∧ k1 = k2 ∧ rhv = shv ∧ v1 = v2) → Ending.returned (.bool false) = Ending.returned (.bool D) := by
    rw [hD, hk1, hk2, hv1, hv2]; exact fun h => same_no (r := ⟨ro, rt, rhk, rk, rhv, rv⟩) (s := ⟨so, st, shk, sk, shv, sv⟩) h
  have hyes : (ro = so ∧ rt = st ∧ rhk = shk ∧ k1 = k2 ∧ rhv = shv ∧ v1 = v2) → Ending.returned (.bool true) = Ending.returned (.bool D) := by
    rw [hD, hk1, hk2, hv1, hv2]; exact fun h => same_yes (r := ⟨ro, rt, rhk, rk, rhv, rv⟩) (s := ⟨so, st, shk, sk, shv, sv⟩) h
  have HNO := Lib.hid hno; clear hno
  have HYES := Lib.hid hyes; clear hyes
  rw [← hk1] at hc1
  rw [← hk2] at hc2
  rw [← hv1] at hc3
  rw [← hv2] at hc4
  clear hk1 hk2 hv1 hv2 hD
  go_enter Try.func36, Try.ntmps36
  by_cases e0 : ro = so
  · by_cases e1 : rt = st
    · by_cases e2 : rhk = shk
      · by_cases e4 : rhv = shv
        · subst e0 e1 e2 e4
          by_cases e3 : k1 = k2
          · subst e3
            by_cases e5 : v1 = v2
            · subst e5
              go_wp2
              go_ret
              exact ⟨HYES.out (by simp), two_boxes _ _⟩
            · have n5 := text_ne5 e5
              go_wp2
              go_ret
              exact ⟨HNO.out fun h => e5 h.2.2.2.2.2, two_boxes _ _⟩
          · have n3 := text_ne5 e3
            go_wp2
            go_ret
            exact ⟨HNO.out fun h => e3 h.2.2.2.1, two_boxes _ _⟩
        · go_wp2
          go_ret
          exact ⟨HNO.out fun h => e4 h.2.2.2.2.1, two_boxes _ _⟩
      · go_wp2
        go_ret
        exact ⟨HNO.out fun h => e2 h.2.2.1, two_boxes _ _⟩
    · go_wp2
      go_ret
      exact ⟨HNO.out fun h => e1 h.2.1, two_boxes _ _⟩
  · go_wp2
    go_ret
    exact ⟨HNO.out fun h => e0 h.1, two_boxes _ _⟩

def recsSame : List Rec → List Rec → Bool
  | [], [] => true
  | r :: rs, s :: ss => decide (r.Same s) && recsSame rs ss
  | _, _ => false
theorem recsSame_len : ∀ (rs ss : List Rec), rs.length ≠ ss.length → recsSame rs ss = false
  | [], [], h => absurd rfl h
  | [], _ :: _, _ => rfl
  | _ :: _, [], _ => rfl
  | r :: rs, s :: ss, h => by
    have h : rs.length ≠ ss.length := fun e => h (by simp [e])
    show (decide (r.Same s) && recsSame rs ss) = false
    rw [recsSame_len rs ss h, Bool.and_false]
theorem recsSame_comm : ∀ (rs ss : List Rec), recsSame rs ss = recsSame ss rs
  | [], [] => rfl
  | [], _ :: _ => rfl
  | _ :: _, [] => rfl
  | r :: rs, s :: ss => by
    show (decide (r.Same s) && recsSame rs ss) = (decide (s.Same r) && recsSame ss rs)
    rw [recsSame_comm rs ss, show decide (r.Same s) = decide (s.Same r) from decide_eq_decide.2 ⟨Rec.Same.symm, Rec.Same.symm⟩]
theorem recsSame_drop {rs ss : List Rec} {j : Nat} {r s : Rec} (hr : rs[j]? = some r) (hs : ss[j]? = some s) :
    recsSame (rs.drop j) (ss.drop j) = (decide (r.Same s) && recsSame (rs.drop (j + 1)) (ss.drop (j + 1))) := by
  obtain ⟨h1, h2⟩ := List.getElem?_eq_some_iff.1 hr
  obtain ⟨h3, h4⟩ := List.getElem?_eq_some_iff.1 hs
  rw [List.drop_eq_getElem_cons h1, List.drop_eq_getElem_cons h3, h2, h4]
  rfl

set_option maxRecDepth 20000 in
set_option maxHeartbeats 4000000 in
theorem ref.samerecs_any (rs ss : List Rec) (A : Option Addr) (c : Nat) (B : Option Addr) (d : Nat) (w : World) (hv : RecsV w (.slice A rs.length c) rs) (hu : RecsV w (.slice B ss.length d) ss) :
    Calls Try.prog 23 #[.slice A rs.length c, .slice B ss.length d] w fun e w' => e = .returned (.bool (recsSame rs ss)) ∧ Below w.heap.size w w' := by
  have hlen : rs.length ≤ maxLen := by
    obtain ⟨A', c', V, h, h1, h2, -⟩ := hv
    exact Nat.le_trans h1 h2
  have hlen2 : ss.length ≤ maxLen := by
    obtain ⟨A', c', V, h, h1, h2, -⟩ := hu
    exact Nat.le_trans h1 h2
  unfold maxLen at hlen hlen2
  have HV := Lib.hid hv; clear hv
  have HU := Lib.hid hu; clear hu
  have hpost : ∀ x : Bool, x = recsSame rs ss → Ending.returned (.bool x) = Ending.returned (.bool (recsSame rs ss)) := fun x h => by rw [h]
  have HPOST := Lib.hid hpost; clear hpost
  by_cases hl : rs.length = ss.length
  · obtain ⟨n, hn⟩ : ∃ n, n = rs.length := ⟨_, rfl⟩
    have hm : ss.length = n := by omega
    rw [← hn] at HV hlen ⊢
    rw [hm] at HU hlen2 ⊢
    have HN := Lib.hid (And.intro hn.symm hm); clear hn hm hl
    go_enter Try.func23, Try.ntmps23
    go_wp2_with fail
    go_loopw [5] (fun i wr => ∃ j : Nat, j ≤ n ∧ i = .int .i64 (j : Int) ∧ recsSame rs ss = recsSame (rs.drop j) (ss.drop j) ∧ Below w.heap.size w wr) (fun i _ => n - (intOf i).toNat)
    case atStart => exact ⟨0, by omega, rfl, rfl, Below.refl _ _⟩
    case round =>
      obtain ⟨j, hj, rfl, hrs, hbw⟩ := hrel
      have HBW := Lib.hid hbw; clear hbw
      by_cases hlt : j < n
      · obtain ⟨x, hx⟩ : ∃ x, rs[j]? = some x := ⟨_, List.getElem?_eq_getElem (by have := HN.out.1; omega)⟩
        obtain ⟨y, hy⟩ : ∃ y, ss[j]? = some y := ⟨_, List.getElem?_eq_getElem (by have := HN.out.2; omega)⟩
        rw [recsSame_drop hx hy] at hrs
        obtain ⟨p, off, c', kv, vv, hA, -, -, hp, d0, d1, d2, d3, d4, d5, hk, hvv, -, -⟩ := (HV.out.below HBW.out (Nat.le_refl _)).at' hx
        obtain ⟨q, off', d', ku, vu, hB, -, -, hq, e0, e1, e2, e3, e4, e5, hku, hvu, -, -⟩ := (HU.out.below HBW.out (Nat.le_refl _)).at' hy
        obtain ⟨rfl, -, rfl⟩ : A = some ⟨p, off, none⟩ ∧ n = rs.length ∧ c = c' := by simpa using hA
        obtain ⟨rfl, -, rfl⟩ : B = some ⟨q, off', none⟩ ∧ n = ss.length ∧ d = d' := by simpa using hB
        obtain ⟨Ak, ck, rfl, hak, -, -, -⟩ := hk
        obtain ⟨Av, cv, rfl, hav, -, -, -⟩ := hvv
        obtain ⟨Bk, dk, rfl, hbk, -, -, -⟩ := hku
        obtain ⟨Bv, dv, rfl, hbv, -, -, -⟩ := hvu
        clear hA hB hx hy
        have hcall := fun wx (h : Below wr.heap.size wr wx) => ref.samerec_any x y Ak ck Av cv Bk dk Bv dv wx (hak.below h (Nat.le_refl _)) (hav.below h (Nat.le_refl _)) (hbk.below h (Nat.le_refl _)) (hbv.below h (Nat.le_refl _))
        unfold Rec.hval at hcall
        have HCALL := Lib.hid hcall; clear hcall hak hav hbk hbv
        have HRS := Lib.hid hrs; clear hrs
        have dl0 : ∀ z : Later wr (fun _ => False), z.1.cell? ⟨p, off + j * 6, none⟩ = some (.int .i64 x.off) := fun z => ((z.2.below (Nat.le_refl _) fun _ q => q.elim).cell hp).trans d0
        have dl1 : ∀ z : Later wr (fun _ => False), z.1.cell? ⟨p, off + j * 6 + 1, none⟩ = some (.int .i64 x.time) := fun z => ((z.2.below (Nat.le_refl _) fun _ q => q.elim).cell hp).trans d1
        have dl2 : ∀ z : Later wr (fun _ => False), z.1.cell? ⟨p, off + j * 6 + 2, none⟩ = some (.bool x.hasKey) := fun z => ((z.2.below (Nat.le_refl _) fun _ q => q.elim).cell hp).trans d2
        have dl3 : ∀ z : Later wr (fun _ => False), z.1.cell? ⟨p, off + j * 6 + 3, none⟩ = some (.slice Ak x.key.length ck) := fun z => ((z.2.below (Nat.le_refl _) fun _ q => q.elim).cell hp).trans d3
        have dl4 : ∀ z : Later wr (fun _ => False), z.1.cell? ⟨p, off + j * 6 + 4, none⟩ = some (.bool x.hasVal) := fun z => ((z.2.below (Nat.le_refl _) fun _ q => q.elim).cell hp).trans d4
        have dl5 : ∀ z : Later wr (fun _ => False), z.1.cell? ⟨p, off + j * 6 + 5, none⟩ = some (.slice Av x.val.length cv) := fun z => ((z.2.below (Nat.le_refl _) fun _ q => q.elim).cell hp).trans d5
        have el0 : ∀ z : Later wr (fun _ => False), z.1.cell? ⟨q, off' + j * 6, none⟩ = some (.int .i64 y.off) := fun z => ((z.2.below (Nat.le_refl _) fun _ q => q.elim).cell hq).trans e0
        have el1 : ∀ z : Later wr (fun _ => False), z.1.cell? ⟨q, off' + j * 6 + 1, none⟩ = some (.int .i64 y.time) := fun z => ((z.2.below (Nat.le_refl _) fun _ q => q.elim).cell hq).trans e1
        have el2 : ∀ z : Later wr (fun _ => False), z.1.cell? ⟨q, off' + j * 6 + 2, none⟩ = some (.bool y.hasKey) := fun z => ((z.2.below (Nat.le_refl _) fun _ q => q.elim).cell hq).trans e2
        have el3 : ∀ z : Later wr (fun _ => False), z.1.cell? ⟨q, off' + j * 6 + 3, none⟩ = some (.slice Bk y.key.length dk) := fun z => ((z.2.below (Nat.le_refl _) fun _ q => q.elim).cell hq).trans e3
        have el4 : ∀ z : Later wr (fun _ => False), z.1.cell? ⟨q, off' + j * 6 + 4, none⟩ = some (.bool y.hasVal) := fun z => ((z.2.below (Nat.le_refl _) fun _ q => q.elim).cell hq).trans e4
        have el5 : ∀ z : Later wr (fun _ => False), z.1.cell? ⟨q, off' + j * 6 + 5, none⟩ = some (.slice Bv y.val.length dv) := fun z => ((z.2.below (Nat.le_refl _) fun _ q => q.elim).cell hq).trans e5
        go_wp2_with fail
        have hS0 : later wr (fun _ => False) wr.drew := later_of ((Chg.refl _ _).drew)
        refine wp_plan (S := fun w0 => ∃ x : Later wr (fun _ => False), w0 = x.1) (by kernel_rfl) hS0 ?_
        intro hS K5 hK5
        have HS := Lib.hid hS; clear hS hS0
        refine plan_group [true, true, true, true, true, true, true] [0, 1, 2, 3, 4, 5, 6] 3 (by dsimp only [sel]) (by rfl) rfl (by kernel_rfl) (by kernel_rfl) HS.out ?_
        (repeat go_big_quiet_step (fail)); refine wpQuiet_nil ?_
        refine plan_one [false, false, false, false, false, false, false, true] 7 2 (by dsimp only [sel]) (by rfl) rfl (by kernel_rfl) ?_; intro K1 hK1; go_wp2_with fail
        refine ⟨later_of ((Chg.refl _ _).drew), ?_⟩
        refine plan_one [false, false, false, false, false, false, false, false, true] 8 1 (by dsimp only [sel]) (by rfl) rfl (by kernel_rfl) ?_; intro K1 hK1; go_wp2_with fail
        refine (HCALL.out _ (bdrew (Below.refl _ wr) 1)).mono ?_
        rintro e wb ⟨rfl, hbb⟩
        go_wp2_with fail
        have HS2 := Lib.hid (later_of (((Chg.refl wr (fun _ => False)).drew).trans (chg_of (P := fun _ => False) hbb) fun _ _ q => q))
        refine ⟨HS2.out, ?_⟩
        refine plan_group [false, false, false, false, false, false, false, false, false, true] [9] 0 (by dsimp only [sel]) (by rfl) rfl (by kernel_rfl) (by kernel_rfl) HS2.out ?_
        (repeat go_big_quiet_step (fail)); refine wpQuiet_nil ?_
        refine wp_plan_end (by kernel_rfl) ?_
        have HB2 := Lib.hid (HBW.out.trans (((bdrew (Below.refl _ wr) 1).trans (hbb.mono (Nat.le_refl _))).mono HBW.out.size)); clear hbb d0 d1 d2 d3 d4 d5 e0 e1 e2 e3 e4 e5
        by_cases hs : x.Same y
        · have hr2 : recsSame rs ss = recsSame (rs.drop (j + 1)) (ss.drop (j + 1)) := by rw [HRS.out, decide_eq_true hs, Bool.true_and]
          have HR2 := Lib.hid hr2; clear hr2
          rw [decide_eq_true hs]
          go_wp2
          go_roundw
          case rel => exact ⟨j + 1, by omega, by go_num, HR2.out, HB2.out⟩
          case measure => simp [intOf]; omega
        · have hr2 : false = recsSame rs ss := by rw [HRS.out, decide_eq_false hs, Bool.false_and]
          have HR2 := Lib.hid hr2; clear hr2
          rw [decide_eq_false hs]
          go_wp2
          go_ret
          exact ⟨HPOST.out false HR2.out, HB2.out⟩
      · obtain rfl : j = n := by omega
        have hrs2 : true = recsSame rs ss := by rw [hrs, List.drop_of_length_le (by rw [HN.out.1]; exact Nat.le_refl _), List.drop_of_length_le (by rw [HN.out.2]; exact Nat.le_refl _)]; rfl
        clear hrs
        have HRS := Lib.hid hrs2; clear hrs2
        go_wp2
        go_ret
        exact ⟨HPOST.out true HRS.out, HBW.out⟩
  · have HNE := Lib.hid (recsSame_len rs ss hl)
    go_enter Try.func23, Try.ntmps23
    go_wp2
    go_ret
    exact ⟨HPOST.out false HNE.out.symm, Below.refl _ _⟩

def Bat.heads (a b : Bat) : Prop := a.base = b.base ∧ a.last = b.last ∧ a.prod = b.prod ∧ a.epoch = b.epoch ∧ a.seq = b.seq
instance (a b : Bat) : Decidable (a.heads b) := by unfold Bat.heads; infer_instance
def Bat.same (a b : Bat) : Bool := decide (a.heads b) && recsSame a.recs b.recs
theorem Bat.same_comm (a b : Bat) : a.same b = b.same a := by
  unfold Bat.same
  rw [recsSame_comm a.recs b.recs, show decide (a.heads b) = decide (b.heads a) from decide_eq_decide.2 ⟨fun ⟨h1, h2, h3, h4, h5⟩ => ⟨h1.symm, h2.symm, h3.symm, h4.symm, h5.symm⟩, fun ⟨h1, h2, h3, h4, h5⟩ => ⟨h1.symm, h2.symm, h3.symm, h4.symm, h5.symm⟩⟩]

end Go.Proofs.Ytahncanmfjmfnaa

/- proto: a list of texts read (chapter 20). -/
import Derived.BigQuiet
import Derived.Deep.CutRange
import Derived.Maps.AppendAt
import Derived.Test.YtimcpbbcealkiaaPqO
import Derived.Test.YtimcpbbcealkiaaRdN
namespace Go.Proofs.Ytimcpbbcealkiaa
open Go.RowKit Go.Maps
set_option maxRecDepth 20000

theorem pq.clos_any (Q : Nat → Prop) (bx r : Nat) (L : List Nat) (e : Int) (w : World) (hb : Blk w bx 73 #[.pointer (some ⟨r, 0, none⟩)]) (h : RdQ Q w r L e) :
    Calls Try.prog 66 #[.pointer (some ⟨bx, 0, none⟩)] w (TextQ Q w r (rd.piece L e 100).1 (rd.piece L e 100).2.1 (rd.piece L e 100).2.2) := by
  have hp := rdq.text Q r L e 100 w h
  obtain ⟨⟨M, L1, e1⟩, hq⟩ : ∃ q, rd.piece L e 100 = q := ⟨_, rfl⟩
  rw [hq] at hp ⊢
  dsimp only at hp ⊢
  have c0 := hb.cell 0 (v := .pointer (some ⟨r, 0, none⟩)) rfl
  have bl := hb.lt
  have HP := Lib.hid hp; clear hp hq h
  go_enter Try.func66, Try.ntmps66
  go_wp2_with (go_at_call 63; refine HP.out.mono ?_; rintro en w1 ⟨rfl, h1, h2⟩; have HR := Lib.hid (And.intro h1 h2); clear h1 h2)
  go_ret
  exact ⟨rfl, HR.out.1, HR.out.2⟩
/-- So many texts, of at most 100 bytes. -/
def rd.texts : Nat → List Nat → Int → List ByteArray × List Nat × Int
  | 0, L, e => ([], L, e)
  | k + 1, L, e => (strOf (rd.piece L e 100).1 :: (rd.texts k (rd.piece L e 100).2.1 (rd.piece L e 100).2.2).1, (rd.texts k (rd.piece L e 100).2.1 (rd.piece L e 100).2.2).2)
theorem rd.texts_len : ∀ (k : Nat) (L : List Nat) (e : Int), (rd.texts k L e).1.length = k
  | 0, _, _ => rfl
  | k + 1, L, e => by
    show (rd.texts k _ _).1.length + 1 = k + 1
    rw [rd.texts_len k]
/-- How many there are, at most so many, and these; the error that is told. -/
def pq.list (most : Int) (L : List Nat) (e : Int) : List ByteArray × List Nat × Int :=
  if (rd.num L e).2.2 = 0 ∧ ((rd.num L e).1 < 0 ∨ most < (rd.num L e).1) then ([], (rd.num L e).2.1, 2) else rd.texts (rd.num L e).1.toNat (rd.num L e).2.1 (rd.num L e).2.2
theorem pq.infoStr : (Try.prog.info? 9).map (fun i => (i.zero, i.size, i.bytes)) = some (some (.string (ByteArray.mk #[])), 1, 16) := by kernel_rfl
theorem rd.num_zero {L : List Nat} {e : Int} (h : (rd.num L e).2.2 ≠ 0) : (rd.num L e).1 = 0 := by
  unfold rd.num at h ⊢
  split
  · rfl
  · split
    · rfl
    · rename_i h1 _ u k h2
      exfalso
      rw [if_neg h1, h2] at h
      exact h rfl
theorem rdq.err {Q : Nat → Prop} {r : Nat} {L : List Nat} {e : Int} {w : World} (h : RdQ Q w r L e) : Calls Try.prog 60 #[.pointer (some ⟨r, 0, none⟩)] w fun en w' => en = .returned (.int .i64 e) ∧ w = w' := by
  obtain ⟨A, c, h, -⟩ := h
  exact wire.err_any r A c L e w h
theorem pq.new_one (w : World) (v : Value) (t : TypeId) (n : Nat) (hn : n = w.heap.size) : ∀ j u, [v][j]? = some u → (w.alloc (.cells #[v] t)).cell? ((⟨n, 0, none⟩ : Addr).add j) = some u := by
  subst hn
  intro j u hj
  rw [add_none, Nat.zero_add]
  exact (Blk.new w t #[v]).cell j (by simpa using hj)
set_option maxHeartbeats 4000000 in
theorem pq.list_any (Q : Nat → Prop) (most : Int) (bx r : Nat) (L : List Nat) (e : Int) (w : World) (hm : 0 ≤ most ∧ most ≤ 1000) (hb : Blk w bx 73 #[.pointer (some ⟨r, 0, none⟩)]) (h : RdQ Q w r L e) (hQ : ∀ k, Q k → k < w.heap.size) :
    Calls Try.prog 65 #[.pointer (some ⟨r, 0, none⟩), .int .i64 most, .func (.func 66) #[] #[.pointer (some ⟨bx, 0, none⟩)]] w fun en w' => (∃ v, en = .returned (.tuple #[v, .int .i64 (pq.list most L e).2.2]) ∧
      w'.ownsRow w.heap.size 9 1 v (pq.list most L e).1.length ((pq.list most L e).1.map fun s => .string s)) ∧ ((pq.list most L e).2.2 = 0 → RdQ Q w' r (pq.list most L e).2.1 0) ∧ Chg w w' (rdT r) := by
  have hnum := rdq.num Q r L e w h
  have hz := @rd.num_zero L e
  have hbr : bx ≠ r := by
    rintro rfl
    obtain ⟨cs, h'⟩ := h.blk
    have := (show w.heap[bx]? = _ from hb).symm.trans h'
    simp at this
  obtain ⟨q0, hq0⟩ : ∃ q, q = pq.list most L e := ⟨_, rfl⟩
  rw [← hq0]
  unfold pq.list at hq0
  obtain ⟨⟨n, L1, e1⟩, hq⟩ : ∃ q, rd.num L e = q := ⟨_, rfl⟩
  rw [hq] at hnum hz hq0
  dsimp only at hnum hz hq0
  clear hq h
  obtain ⟨i0, hi0, hz0, hz1, hz2⟩ := info_parts pq.infoStr
  have HI := Lib.hid (And.intro hi0 (And.intro hz0 (And.intro hz1 hz2))); clear hi0 hz0 hz1 hz2
  have HN := Lib.hid (And.intro hnum (And.intro hb hq0)); clear hnum hb hq0
  have HBR := Lib.hid hbr; clear hbr
  have HQW := Lib.hid hQ; clear hQ
  by_cases hbad : e1 = 0 ∧ (n < 0 ∨ most < n)
  · obtain ⟨rfl, hbad⟩ := hbad
    have hq0 := HN.out.2.2
    rw [if_pos ⟨rfl, hbad⟩] at hq0
    subst hq0
    clear hz
    have hc : decide (n < 0) = true ∨ (decide (n < 0) = false ∧ decide (most < n) = true) := by simp only [decide_eq_true_eq, decide_eq_false_iff_not]; omega
    clear hbad
    rcases hc with d1 | ⟨d1, d2⟩
    all_goals
      go_enter Try.func65, Try.ntmps65
      go_wp2_with (first
        | (go_at_call 60; refine (rdq.err H2.out.1).mono ?_; rintro en w1' ⟨rfl, h3⟩; subst h3)
        | (go_at_call 64; refine HN.out.1.mono ?_; rintro en w1 ⟨rfl, h1, h2⟩; have H2 := Lib.hid (And.intro h1 h2); clear h1 h2))
      go_ret2
      exact ⟨⟨_, rfl, World.ownsRow_nil _ _ _ _⟩, fun h => absurd h (by decide), H2.out.2⟩
  · obtain ⟨k, rfl, hk⟩ : ∃ k : Nat, n = (k : Int) ∧ k ≤ 1000 := by
      by_cases h0 : e1 = 0
      · exact ⟨n.toNat, by omega, by omega⟩
      · exact ⟨0, hz h0, by omega⟩
    clear hz
    have hq0 := HN.out.2.2
    rw [if_neg hbad, Int.toNat_natCast] at hq0
    have HQ0 := Lib.hid hq0; clear hq0
    go_enter Try.func65, Try.ntmps65
    go_upto_region 2 with (go_at_call 64; refine HN.out.1.mono ?_; rintro en w1 ⟨rfl, h1, h2⟩; have H2 := Lib.hid (And.intro h1 h2); clear h1 h2)
    go_cut [23] from 10 (fun s23 wx => s23 = .bool false ∧ w1 = wx)
    case first =>
      by_cases h0 : e1 = 0
      · subst h0
        have d1 : decide ((k : Int) < 0) = false := decide_eq_false (by omega)
        have d2 : decide (most < (k : Int)) = false := decide_eq_false (fun h => hbad ⟨rfl, .inr h⟩)
        clear hbad
        go_wp2_with (go_at_call 60; refine (rdq.err H2.out.1).mono ?_; rintro en w1' ⟨rfl, h3⟩; subst h3)
        go_meet
        case rel => exact ⟨rfl, rfl⟩
      · have d1 : (e1 == 0) = false := by simp [h0]
        clear hbad h0
        go_wp2_with (go_at_call 60; refine (rdq.err H2.out.1).mono ?_; rintro en w1' ⟨rfl, h3⟩; subst h3)
        go_meet
        case rel => exact ⟨rfl, rfl⟩
    case rest =>
      obtain ⟨rfl, rfl⟩ := hcut
      clear hbad
      go_wp2_with fail
      go_loopw [9, 25] (fun l i wx => ∃ (j : Nat) (ns : List ByteArray) (Lj : List Nat) (ej : Int), j ≤ k ∧ i = .int .i64 (j : Int) ∧ ns.length = j ∧ rd.texts k L1 e1 = (ns ++ (rd.texts (k - j) Lj ej).1, (rd.texts (k - j) Lj ej).2) ∧ wx.ownsRow w.heap.size 9 1 l j (ns.map fun s => .string s) ∧ RdQ Q wx r Lj ej ∧ Chg w wx (rdT r)) (fun _ i _ => k - (intOf i).toNat)
      case atStart => exact ⟨0, [], L1, e1, by omega, rfl, rfl, by simp, World.ownsRow_nil _ _ _ _, H2.out.1, H2.out.2⟩
      case round =>
        obtain ⟨j, ns, Lj, ej, hj, rfl, hns, htx, hown, hrd, hcw⟩ := hrel
        obtain ⟨Al, cl, rfl, -, -⟩ := own_at hown
        by_cases hlt : j < k
        · have hlt' : (j : Int) < (k : Int) := by omega
          have hclos := pq.clos_any _ bx r Lj ej wr (hcw.blk HN.out.2.1 HBR.out) hrd
          rw [show k - j = (k - (j + 1)) + 1 by omega] at htx
          rw [rd.texts] at htx
          obtain ⟨⟨Pj, Lj1, ej1⟩, hpj⟩ : ∃ q, rd.piece Lj ej 100 = q := ⟨_, rfl⟩
          rw [hpj] at htx hclos
          dsimp only at htx hclos
          clear hpj
          obtain ⟨s, hs⟩ : ∃ s, s = strOf Pj := ⟨_, rfl⟩
          unfold TextQ at hclos
          rw [← hs] at htx hclos
          clear hs
          have hrow : (Value.slice Al j cl).ownBlock ≠ some r := by
            obtain ⟨cs, hb⟩ := hrd.blk
            exact hb.not_row (by decide) hown
          have HJ := Lib.hid (And.intro hclos (And.intro hns (And.intro htx (And.intro hown (And.intro hcw hrow))))); clear hclos hns htx hown hcw hrow hrd
          go_wp2_with fail
          refine HJ.out.1.mono ?_
          rintro en w4 ⟨rfl, hr4, hc4⟩
          obtain ⟨wa, hwa⟩ : ∃ wa, wa = w4.alloc (.cells #[.string s] 9) := ⟨_, rfl⟩
          have hba : Below w4.heap.size w4 wa := by rw [hwa]; exact (Below.refl _ _).alloc (Nat.le_refl _) _
          have howna : wa.ownsRow w.heap.size 9 1 (.slice Al j cl) j (ns.map fun s => .string s) := (chg_of (P := fun _ => False) hba).own (hc4.own HJ.out.2.2.2.1 fun q hq e => HJ.out.2.2.2.2.2 (by rw [hq, show q = r from e])) fun _ _ q => q
          have hra := hr4.keep hba
          have hcwa : Chg w wa (rdT r) := (HJ.out.2.2.2.2.1.trans hc4 fun _ _ q => q).trans (chg_of (P := fun _ => False) hba) fun _ _ q => q.elim
          have hcell := pq.new_one w4 (.string s) 9 w4.heap.size rfl
          have happ : ∀ v2 w9, w9.ownsRow w.heap.size 9 1 v2 (j + 1) ((ns.map fun s => .string s) ++ [.string s]) → wa.grownBy w9 (Value.slice Al j cl).ownBlock → w9.ownsRow w.heap.size 9 1 v2 (j + 1) ((ns ++ [s]).map fun s => .string s) ∧ RdQ Q w9 r Lj1 ej1 ∧ Chg w w9 (rdT r) := fun v2 w9 h1 h2 =>
            ⟨by rw [List.map_append]; exact h1, hra.chg (Chg.grown h2) HJ.out.2.2.2.2.2 fun q hq e => by have h1 := (howna.lt q e).1; have h2 := HQW.out q hq; omega, hcwa.trans (Chg.grown h2) fun q hq e => absurd (howna.lt q e).1 (Nat.not_le.2 hq)⟩
          have hszw : w.heap.size ≤ wa.heap.size := hcwa.size
          have HAPP := Lib.hid (And.intro happ (And.intro howna (And.intro hcell (And.intro hwa hszw)))); clear happ howna hcell hwa hszw hba hra hcwa hr4 hc4
          go_wp2_with (at_builtin; rw [← HAPP.out.2.2.2.1]; refine wpList_append_own_at _ rfl (.tmp 27) (.tmp 30) 22 rfl w.heap.size 9 i0 _ 1 16 Try.underlying22 HI.out.1 HI.out.2.1 HI.out.2.2.1 HI.out.2.2.2 rfl (by decide) (.slice Al j cl) j (ns.map fun s => .string s) rfl HAPP.out.2.1 ⟨w4.heap.size, 0, none⟩ 1 1 [.string s] rfl rfl (by rw [HAPP.out.2.2.2.1]; exact HAPP.out.2.2.1) (by simp [Value.oneCell']) (by unfold maxLen; omega) (by omega) HAPP.out.2.2.2.2 ?_; intro v2 w9 h1 h2 _ h3; have HN9 := Lib.hid (HAPP.out.1 v2 w9 h1 h2); clear h1 h2 h3)
          go_wp2_with fail
          go_roundw
          case rel => exact ⟨j + 1, ns ++ [s], Lj1, ej1, by omega, by go_num, by rw [List.length_append, HJ.out.2.1]; rfl, by rw [HJ.out.2.2.1, List.append_assoc]; rfl, HN9.out.1, HN9.out.2.1, HN9.out.2.2⟩
          case measure => simp [intOf]; omega
        · obtain rfl : k = j := by omega
          rw [Nat.sub_self] at htx
          have hq1 : q0 = (ns, Lj, ej) := by rw [HQ0.out, htx]; simp [rd.texts]
          subst hq1
          have HF := Lib.hid (And.intro hns (And.intro hown (And.intro hrd hcw))); clear hns hown hrd hcw htx hlt HQ0
          go_wp2_with (go_at_call 60; refine (rdq.err HF.out.2.2.1).mono ?_; rintro en w1' ⟨rfl, h3⟩; subst h3)
          go_ret2
          exact ⟨⟨_, rfl, by dsimp only; rw [HF.out.1]; exact HF.out.2.1⟩, fun h => by have h : ej = 0 := h; subst h; exact HF.out.2.2.1, HF.out.2.2.2⟩
end Go.Proofs.Ytimcpbbcealkiaa

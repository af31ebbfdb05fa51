/- commits: Apply (chapter 18). -/
import Derived.BigQuiet
import Derived.Test.YtkkpbnhagobhmaaCmN
import Derived.Test.YtkkpbnhagobhmaaCmD
namespace Go.Proofs.Ytkkpbnhagobhmaa
open Go.RowKit Go.Maps
set_option maxRecDepth 100000
/-- What a record asks. -/
def cm.act (X : Rec) : Option CAct :=
  if X.hasKey = false then none else
  if strOf (rd.piece X.key 0 1).1 = ⟨#[111]⟩ then cm.actE (rd.piece X.key 0 1).2.1 (rd.piece X.key 0 1).2.2 X else
  if strOf (rd.piece X.key 0 1).1 = ⟨#[103]⟩ then cm.actG (rd.piece X.key 0 1).2.1 (rd.piece X.key 0 1).2.2 X else none
theorem cm.one_list (x : UInt8) : (⟨#[x]⟩ : ByteArray).toList = [x] := by rw [ByteArray.toList_eq]
theorem cm.one_is {s : ByteArray} {x : UInt8} (h : s = ⟨#[x]⟩) : s.toList = [x] ∧ (s.toList == [x]) = true := by rw [h, cm.one_list]; exact ⟨rfl, by simp⟩
theorem cm.one_no {s : ByteArray} {x : UInt8} (h : s ≠ ⟨#[x]⟩) : ¬ s.toList = [x] ∧ (s.toList == [x]) = false := by
  have h1 : ¬ s.toList = [x] := fun e => h (by
    rw [ByteArray.toList_eq] at e
    exact ByteArray.ext (Array.ext' (by rw [e])))
  exact ⟨h1, by simpa using h1⟩
theorem cm.tab_of {w w3 w4 : World} {p mo mf r n : Nat} {T : CTab} {c : Int} {en : Ending} (h : cm.appPost w3 p mo mf r T n c en w4) (hc : Chg w w3 (fun k => w.heap.size ≤ k)) (hr : w.heap.size ≤ r) : cm.tabPost w p mo mf T n c en w4 := by
  obtain ⟨h1, h2, h3⟩ := h
  have h4 : Chg w w4 (fun k => w.heap.size ≤ k ∨ (k = r ∨ k = mo ∨ k = mf)) := (hc.mono fun _ _ q => .inl q).trans h3 fun _ _ q => .inr q
  exact ⟨h1, h2, ⟨h4.os, h4.tape, h4.output, h4.size, fun k hk hp => h4.block k hk fun q => by
    rcases q with q | q | q
    · omega
    · omega
    · exact hp q⟩⟩
theorem cm.apply_nil (v : Value) (X : Rec) (w : World) (hv : cm.RecV w v X) : Calls Try.prog 16 #[.pointer none, v] w fun en w' => en = .returned (.int .i64 1) ∧ Below w.heap.size w w' := by
  obtain ⟨k, u, rfl, -, -⟩ := hv
  go_enter Try.func16, Try.ntmps16
  go_wp2_with fail
  go_ret
  exact ⟨rfl, (Below.refl w.heap.size w).alloc (Nat.le_refl _) _⟩
set_option maxHeartbeats 4000000 in
theorem cm.apply_any (v : Value) (X : Rec) (p mo mf : Nat) (T : CTab) (n : Nat) (w : World) (hv : cm.RecV w v X) (h : TabAt w p mo mf T n) (hn : n < maxLen) :
    Calls Try.prog 16 #[.pointer (some ⟨p, 0, none⟩), v] w (cm.tabPost w p mo mf (T.app (cm.act X)) (n + 1) (cm.code (cm.act X))) := by
  obtain ⟨k, u, rfl, hk, hu⟩ := hv
  have hl := h.lt
  obtain ⟨act, hact⟩ : ∃ a, a = cm.act X := ⟨_, rfl⟩
  rw [← hact]
  unfold cm.act at hact
  obtain ⟨b0, hb0⟩ : ∃ b, b = w.heap.size := ⟨_, rfl⟩
  obtain ⟨w1, hw1⟩ : ∃ w1, w1 = w.alloc (.cells #[.int .i64 X.off, .int .i64 X.time, .bool X.hasKey, k, .bool X.hasVal, u] 37) := ⟨_, rfl⟩
  have hk1 : Blk w1 b0 37 #[.int .i64 X.off, .int .i64 X.time, .bool X.hasKey, k, .bool X.hasVal, u] := by rw [hw1, hb0]; exact Blk.new _ _ _
  have hb1 : Below w.heap.size w w1 := by rw [hw1]; exact (Below.refl _ _).alloc (Nat.le_refl _) _
  have ht1 := h.below hb1
  have hkv := hk.below hb1 (Nat.le_refl _)
  have hu1 := hu.below hb1 (Nat.le_refl _)
  have c2 := hk1.cell 2 (v := .bool X.hasKey) rfl
  have c3 := hk1.cell 3 (v := k) rfl
  have cl := hk1.lt
  have H := Lib.hid (And.intro hk1 (And.intro hb1 (And.intro ht1 (And.intro hu1 (And.intro hb0 (And.intro hn hl)))))); clear hk1 hb1 ht1 hu1 hn hl h hu hk
  cases hhk : X.hasKey with
  | false =>
    rw [if_pos hhk] at hact
    rw [hhk] at c2 hw1
    have HA := Lib.hid hact; clear hact
    clear hhk
    go_enter Try.func16, Try.ntmps16
    go_upto_region 1 with fail
    rw [← hw1, ← hb0]
    clear hw1 hb0
    go_wp2_with fail
    go_ret
    rw [HA.out]
    exact ⟨rfl, H.out.2.2.1.up (Nat.le_succ _), chg_of H.out.2.1⟩
  | true =>
    rw [if_neg (by rw [hhk]; simp)] at hact
    rw [hhk] at c2 hw1
    obtain ⟨A, c, rfl, k1, k2, k3, k4⟩ := hkv
    have hbor := wire.borrow_any A c X.key w1 k1 k2 k3 k4
    have htx := fun r wx (hx : RdIs wx r X.key 0) => hx.text 1
    unfold TextPost at htx
    obtain ⟨⟨P, L1, e1⟩, hq⟩ : ∃ q, q = rd.piece X.key 0 1 := ⟨_, rfl⟩
    rw [← hq] at hact htx
    simp only at hact htx
    clear hq
    obtain ⟨s, hs⟩ : ∃ s, s = strOf P := ⟨_, rfl⟩
    rw [← hs] at hact htx
    clear hs
    obtain ⟨m, hm⟩ : ∃ m, m = X.key.length := ⟨_, rfl⟩
    rw [← hm] at hbor c3 hw1
    have hHK := Lib.hid hhk
    have HKM := Lib.hid hm
    clear hhk hm k1 k2 k3 k4
    have HB := Lib.hid (And.intro hbor htx); clear hbor htx
    rw [← HKM.out] at H ⊢
    rw [hHK.out] at H
    have HACT := Lib.hid hact; clear hact
    have HE := Lib.hid (fun r wx (hx : RdIs wx r L1 e1) k u => cm.applyE_any r L1 e1 X k u p mo mf T n wx hx)
    have HG := Lib.hid (fun r wx (hx : RdIs wx r L1 e1) k u => cm.applyG_any r L1 e1 X k u p mo mf T n wx hx)
    rw [hHK.out] at HE HG
    clear HKM hHK
    go_enter Try.func16, Try.ntmps16
    go_upto_region 1 with fail
    rw [← hw1, ← hb0]
    clear hw1 hb0
    go_wp2_with fail
    refine HB.out.1.mono ?_
    rintro en w2 ⟨r, rfl, hr2, hr, hb2⟩
    clear c2 c3 cl
    have H2 := Lib.hid (And.intro (HB.out.2 r w2 hr2) (And.intro hr2 (And.intro hr hb2))); clear hr2 hr hb2 HB
    go_wp2_with fail
    refine H2.out.1.mono ?_
    rintro en w3 ⟨rfl, hr3, hc3⟩
    have hb2 := H2.out.2.2.2
    have hk3 := hc3.blk ((chg_of (P := fun _ => False) hb2).blk H.out.1 fun q => q) (fun q => by have q : b0 = r := q; have := H2.out.2.2.1; have := H.out.1.lt; omega)
    have hl := H.out.2.2.2.2.2.2
    have hrr := H2.out.2.2.1
    have hs1 := H.out.2.1.size
    have ht3 : TabAt w3 p mo mf T n := (H.out.2.2.1.below hb2).keep hc3 (fun q => by have q : p = r := q; omega) (fun q => by have q : mo = r := q; omega) (fun q => by have q : mf = r := q; omega)
    have hu3 := (H.out.2.2.2.1.below hb2 (Nat.le_refl _)).past H2.out.2.1 hc3
    have hcc : Chg w w3 (fun k => w.heap.size ≤ k) := ((chg_of (P := fun k => w.heap.size ≤ k) H.out.2.1).trans (chg_of (P := fun _ => False) hb2) fun _ _ q => q.elim).trans hc3 fun k _ q => by have q : k = r := q; omega
    have hrw : w.heap.size ≤ r := by omega
    have hne : r ≠ p ∧ r ≠ mo ∧ r ≠ mf := by omega
    have H3 := Lib.hid (And.intro ht3 (And.intro hcc (And.intro hrw (And.intro (HE.out r w3 hr3 (.slice A m c) u hu3 ht3 H.out.2.2.2.2.2.1 hne) (HG.out r w3 hr3 (.slice A m c) u hu3 ht3 H.out.2.2.2.2.2.1 hne)))))
    have d0 := hk3.cell 0 (v := .int .i64 X.off) rfl
    have d1 := hk3.cell 1 (v := .int .i64 X.time) rfl
    have d2 := hk3.cell 2 (v := .bool true) rfl
    have d3 := hk3.cell 3 (v := .slice A m c) rfl
    have d4 := hk3.cell 4 (v := .bool X.hasVal) rfl
    have d5 := hk3.cell 5 (v := u) rfl
    have dl := hk3.lt
    clear hb2 hk3 hl hrr hs1 ht3 hu3 hcc hrw hne hr3 hc3 HE HG H2 H
    by_cases h1 : s = ⟨#[111]⟩
    · obtain ⟨e1, f1⟩ := cm.one_is h1
      have hact := HACT.out
      rw [if_pos h1] at hact
      have HX := Lib.hid (And.intro h1 hact); clear hact HACT h1
      go_wp2_with fail
      refine H3.out.2.2.2.1.mono ?_
      intro en w4 h4
      rw [← HX.out.2] at h4
      have H4 := Lib.hid (cm.tab_of h4 H3.out.2.1 H3.out.2.2.1); clear h4
      have hret := H4.out.1
      subst hret
      go_wp2_with fail
      go_ret
      exact H4.out
    · obtain ⟨e1, f1⟩ := cm.one_no h1
      have hact := HACT.out
      rw [if_neg h1] at hact
      by_cases h2 : s = ⟨#[103]⟩
      · obtain ⟨e2, f2⟩ := cm.one_is h2
        rw [if_pos h2] at hact
        have HX := Lib.hid (And.intro h1 (And.intro h2 hact)); clear hact HACT h1 h2
        go_wp2_with fail
        refine H3.out.2.2.2.2.mono ?_
        intro en w4 h4
        rw [← HX.out.2.2] at h4
        have H4 := Lib.hid (cm.tab_of h4 H3.out.2.1 H3.out.2.2.1); clear h4
        have hret := H4.out.1
        subst hret
        go_wp2_with fail
        go_ret
        exact H4.out
      · obtain ⟨e2, f2⟩ := cm.one_no h2
        rw [if_neg h2] at hact
        have HX := Lib.hid (And.intro h1 (And.intro h2 hact)); clear hact HACT h1 h2
        go_wp2_with fail
        go_ret
        rw [HX.out.2.2]
        exact ⟨rfl, H3.out.1.up (Nat.le_succ _), ⟨H3.out.2.1.os, H3.out.2.1.tape, H3.out.2.1.output, H3.out.2.1.size, fun k hk _ => H3.out.2.1.block k hk (by omega)⟩⟩
end Go.Proofs.Ytkkpbnhagobhmaa

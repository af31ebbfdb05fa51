/- proto: lists, requests and answers compared, by the program and by the document (chapter 20). -/
import Derived.BigQuiet
import Derived.Deep.QuietTactic
import Derived.Test.YtimcpbbcealkiaaPqO
import Derived.Test.YtimcpbbcealkiaaConv
namespace Go.Proofs.Ytimcpbbcealkiaa
open Go.RowKit
theorem pq.text_ne {a b : ByteArray} (h : a ≠ b) : (a.toList == b.toList) = false := by
  rw [Bool.eq_false_iff]
  intro e
  rw [beq_iff_eq, ByteArray.toList_eq, ByteArray.toList_eq] at e
  exact h (ByteArray.ext (Array.ext' e))
theorem pq.toList_inj {a b : ByteArray} (h : a.toList = b.toList) : a = b := by
  rw [ByteArray.toList_eq, ByteArray.toList_eq] at h
  exact ByteArray.ext (Array.ext' h)
theorem pq.int_ne {a b : Int} (h : a ≠ b) : (a == b) = false := by simp [h]

set_option maxRecDepth 20000 in
set_option maxHeartbeats 4000000 in
theorem pq.eqs_any (l m : List ByteArray) (A : Option Addr) (c : Nat) (B : Option Addr) (d : Nat) (w : World) (h1 : At w A l.length (fun j => .string (l.getD j ByteArray.empty))) (hl : l.length ≤ maxLen) (h2 : At w B m.length (fun j => .string (m.getD j ByteArray.empty))) (_hm : m.length ≤ maxLen) :
    Calls Try.prog 47 #[.slice A l.length c, .slice B m.length d] w fun e w' => e = .returned (.bool (decide (l = m))) ∧ Below w.heap.size w w' := by
  obtain ⟨D, hD⟩ : ∃ D : Bool, D = decide (l = m) := ⟨_, rfl⟩
  rw [← hD]
  have hno : ∀ j, l.getD j ByteArray.empty ≠ m.getD j ByteArray.empty → Ending.returned (.bool false) = Ending.returned (.bool D) := fun j h => by rw [hD, decide_eq_false fun e => h (by rw [e])]
  have hne : l.length ≠ m.length → Ending.returned (.bool false) = Ending.returned (.bool D) := fun h => by rw [hD, decide_eq_false fun e => h (by rw [e])]
  unfold maxLen at hl
  by_cases hll : l.length = m.length
  · have hyes : (∀ j, j < l.length → l.getD j ByteArray.empty = m.getD j ByteArray.empty) → Ending.returned (.bool true) = Ending.returned (.bool D) := fun h => by
      rw [hD, decide_eq_true (List.ext_getElem hll fun j h1 h2 => by
        have := h j h1
        simpa [List.getD, List.getElem?_eq_getElem h1, List.getElem?_eq_getElem h2] using this)]
    obtain ⟨n, hn⟩ : ∃ n, n = l.length := ⟨_, rfl⟩
    have hm2 : m.length = n := by omega
    rw [hm2] at h2 ⊢
    rw [← hn] at h1 hl hyes ⊢
    have H := Lib.hid (And.intro h1 (And.intro h2 (And.intro hno hyes))); clear h1 h2 hno hyes hne hll hn hm2 hD
    go_enter Try.func47, Try.ntmps47
    go_wp2_with fail
    go_loopw [13] (fun i wx => ∃ (j : Nat), j ≤ n ∧ i = .int .i64 (j : Int) ∧ (∀ q, q < j → l.getD q ByteArray.empty = m.getD q ByteArray.empty) ∧ Chg w wx (fun _ => False)) (fun i _ => n - (intOf i).toNat)
    case atStart => exact ⟨0, by omega, rfl, fun q h => absurd h (by omega), Chg.refl _ _⟩
    case round =>
      obtain ⟨j, hj, rfl, hq, hc⟩ := hrel
      by_cases hlt : j < n
      · have hlt' : (j : Int) < (n : Int) := by omega
        obtain ⟨b, off, rfl, hb, hcb⟩ := (hc.at' H.out.1 fun _ _ _ _ q => q) (by omega)
        obtain ⟨b2, off2, rfl, hb2, hcb2⟩ := (hc.at' H.out.2.1 fun _ _ _ _ q => q) (by omega)
        obtain ⟨x, hx⟩ : ∃ x, x = l.getD j ByteArray.empty := ⟨_, rfl⟩
        obtain ⟨y, hy⟩ : ∃ y, y = m.getD j ByteArray.empty := ⟨_, rfl⟩
        have e1 : wr.cell? ⟨b, off + j, none⟩ = some (.string x) := by rw [hcb j hlt, hx]
        have e2 : wr.cell? ⟨b2, off2 + j, none⟩ = some (.string y) := by rw [hcb2 j hlt, hy]
        have HQ := Lib.hid (And.intro hq (And.intro hc (And.intro hx hy))); clear hq hc hx hy hcb hcb2
        by_cases hxy : x = y
        · subst hxy
          have hq2 : ∀ q, q < j + 1 → l.getD q ByteArray.empty = m.getD q ByteArray.empty := fun q h => by
            rcases Nat.lt_or_ge q j with h1 | h1
            · exact HQ.out.1 q h1
            · obtain rfl : q = j := by omega
              rw [← HQ.out.2.2.1, ← HQ.out.2.2.2]
          have HQ2 := Lib.hid hq2; clear hq2
          go_wp2_with fail
          go_quiet (fail)
          go_wp2_with fail
          exact ⟨⟨j + 1, by omega, by go_num, HQ2.out, HQ.out.2.1.drewN _⟩, by simp [intOf]; omega⟩
        · have n1 := pq.text_ne hxy
          have hfin := H.out.2.2.1 j (by rw [← HQ.out.2.2.1, ← HQ.out.2.2.2]; exact hxy)
          have HF := Lib.hid hfin; clear hfin
          go_wp2_with fail
          go_quiet (fail)
          go_wp2_with fail
          go_ret
          exact ⟨HF.out, (HQ.out.2.1.drewN _).below (Nat.le_refl _) fun _ q => q.elim⟩
      · obtain rfl : n = j := by omega
        have HF := Lib.hid (And.intro (H.out.2.2.2 hq) hc); clear hq hc hlt
        go_wp2_with fail
        go_ret
        exact ⟨HF.out.1, HF.out.2.below (Nat.le_refl _) fun _ q => q.elim⟩
  · obtain ⟨n1, hn1⟩ : ∃ n, n = l.length := ⟨_, rfl⟩
    obtain ⟨n2, hn2⟩ : ∃ n, n = m.length := ⟨_, rfl⟩
    have HF := Lib.hid (hne hll); clear hne hno
    rw [← hn1, ← hn2] at hll ⊢
    clear h1 h2 hD hl hn1 hn2
    have b1 : ((n1 : Int) == (n2 : Int)) = false := by simp; omega
    have b2 : ¬ (n1 : Int) = (n2 : Int) := by omega
    go_enter Try.func47, Try.ntmps47
    go_wp2_with fail
    go_ret
    exact ⟨HF.out, Below.refl _ _⟩

set_option maxRecDepth 20000 in
set_option maxHeartbeats 4000000 in
theorem pq.eqi_any (l m : List Int) (A : Option Addr) (c : Nat) (B : Option Addr) (d : Nat) (w : World) (h1 : At w A l.length (fun j => .int .i64 (l.getD j 0))) (hl : l.length ≤ maxLen) (h2 : At w B m.length (fun j => .int .i64 (m.getD j 0))) (_hm : m.length ≤ maxLen) :
    Calls Try.prog 50 #[.slice A l.length c, .slice B m.length d] w fun e w' => e = .returned (.bool (decide (l = m))) ∧ Below w.heap.size w w' := by
  obtain ⟨D, hD⟩ : ∃ D : Bool, D = decide (l = m) := ⟨_, rfl⟩
  rw [← hD]
  have hno : ∀ j, l.getD j 0 ≠ m.getD j 0 → Ending.returned (.bool false) = Ending.returned (.bool D) := fun j h => by rw [hD, decide_eq_false fun e => h (by rw [e])]
  have hne : l.length ≠ m.length → Ending.returned (.bool false) = Ending.returned (.bool D) := fun h => by rw [hD, decide_eq_false fun e => h (by rw [e])]
  unfold maxLen at hl
  by_cases hll : l.length = m.length
  · have hyes : (∀ j, j < l.length → l.getD j 0 = m.getD j 0) → Ending.returned (.bool true) = Ending.returned (.bool D) := fun h => by
      rw [hD, decide_eq_true (List.ext_getElem hll fun j h1 h2 => by
        have := h j h1
        simpa [List.getD, List.getElem?_eq_getElem h1, List.getElem?_eq_getElem h2] using this)]
    obtain ⟨n, hn⟩ : ∃ n, n = l.length := ⟨_, rfl⟩
    have hm2 : m.length = n := by omega
    rw [hm2] at h2 ⊢
    rw [← hn] at h1 hl hyes ⊢
    have H := Lib.hid (And.intro h1 (And.intro h2 (And.intro hno hyes))); clear h1 h2 hno hyes hne hll hn hm2 hD
    go_enter Try.func50, Try.ntmps50
    go_wp2_with fail
    go_loopw [13] (fun i wx => ∃ (j : Nat), j ≤ n ∧ i = .int .i64 (j : Int) ∧ (∀ q, q < j → l.getD q 0 = m.getD q 0) ∧ Chg w wx (fun _ => False)) (fun i _ => n - (intOf i).toNat)
    case atStart => exact ⟨0, by omega, rfl, fun q h => absurd h (by omega), Chg.refl _ _⟩
    case round =>
      obtain ⟨j, hj, rfl, hq, hc⟩ := hrel
      by_cases hlt : j < n
      · have hlt' : (j : Int) < (n : Int) := by omega
        obtain ⟨b, off, rfl, hb, hcb⟩ := (hc.at' H.out.1 fun _ _ _ _ q => q) (by omega)
        obtain ⟨b2, off2, rfl, hb2, hcb2⟩ := (hc.at' H.out.2.1 fun _ _ _ _ q => q) (by omega)
        obtain ⟨x, hx⟩ : ∃ x, x = l.getD j 0 := ⟨_, rfl⟩
        obtain ⟨y, hy⟩ : ∃ y, y = m.getD j 0 := ⟨_, rfl⟩
        have e1 : wr.cell? ⟨b, off + j, none⟩ = some (.int .i64 x) := by rw [hcb j hlt, hx]
        have e2 : wr.cell? ⟨b2, off2 + j, none⟩ = some (.int .i64 y) := by rw [hcb2 j hlt, hy]
        have HQ := Lib.hid (And.intro hq (And.intro hc (And.intro hx hy))); clear hq hc hx hy hcb hcb2
        by_cases hxy : x = y
        · subst hxy
          have hq2 : ∀ q, q < j + 1 → l.getD q 0 = m.getD q 0 := fun q h => by
            rcases Nat.lt_or_ge q j with h1 | h1
            · exact HQ.out.1 q h1
            · obtain rfl : q = j := by omega
              rw [← HQ.out.2.2.1, ← HQ.out.2.2.2]
          have HQ2 := Lib.hid hq2; clear hq2
          go_wp2_with fail
          go_quiet (fail)
          go_wp2_with fail
          exact ⟨⟨j + 1, by omega, by go_num, HQ2.out, HQ.out.2.1.drewN _⟩, by simp [intOf]; omega⟩
        · have n1 := pq.int_ne hxy
          have hfin := H.out.2.2.1 j (by rw [← HQ.out.2.2.1, ← HQ.out.2.2.2]; exact hxy)
          have HF := Lib.hid hfin; clear hfin
          go_wp2_with fail
          go_quiet (fail)
          go_wp2_with fail
          go_ret
          exact ⟨HF.out, (HQ.out.2.1.drewN _).below (Nat.le_refl _) fun _ q => q.elim⟩
      · obtain rfl : n = j := by omega
        have HF := Lib.hid (And.intro (H.out.2.2.2 hq) hc); clear hq hc hlt
        go_wp2_with fail
        go_ret
        exact ⟨HF.out.1, HF.out.2.below (Nat.le_refl _) fun _ q => q.elim⟩
  · obtain ⟨n1, hn1⟩ : ∃ n, n = l.length := ⟨_, rfl⟩
    obtain ⟨n2, hn2⟩ : ∃ n, n = m.length := ⟨_, rfl⟩
    have HF := Lib.hid (hne hll); clear hne hno
    rw [← hn1, ← hn2] at hll ⊢
    clear h1 h2 hD hl hn1 hn2
    have b1 : ((n1 : Int) == (n2 : Int)) = false := by simp; omega
    have b2 : ¬ (n1 : Int) = (n2 : Int) := by omega
    go_enter Try.func50, Try.ntmps50
    go_wp2_with fail
    go_ret
    exact ⟨HF.out, Below.refl _ _⟩

set_option maxRecDepth 20000 in
set_option maxHeartbeats 4000000 in
theorem pq.texts_any (l m : List ByteArray) (A : Option Addr) (c : Nat) (B : Option Addr) (d : Nat) (w : World) (h1 : At w A l.length (fun j => .string (l.getD j ByteArray.empty))) (hl : l.length ≤ maxLen) (h2 : At w B m.length (fun j => .string (m.getD j ByteArray.empty))) (_hm : m.length ≤ maxLen) :
    Calls Try.prog 46 #[.slice A l.length c, .slice B m.length d] w fun e w' => e = .returned (.bool (decide (l = m))) ∧ Below w.heap.size w w' := by
  obtain ⟨D, hD⟩ : ∃ D : Bool, D = decide (l = m) := ⟨_, rfl⟩
  rw [← hD]
  have hno : ∀ j, l.getD j ByteArray.empty ≠ m.getD j ByteArray.empty → Ending.returned (.bool false) = Ending.returned (.bool D) := fun j h => by rw [hD, decide_eq_false fun e => h (by rw [e])]
  have hne : l.length ≠ m.length → Ending.returned (.bool false) = Ending.returned (.bool D) := fun h => by rw [hD, decide_eq_false fun e => h (by rw [e])]
  unfold maxLen at hl
  by_cases hll : l.length = m.length
  · have hyes : (∀ j, j < l.length → l.getD j ByteArray.empty = m.getD j ByteArray.empty) → Ending.returned (.bool true) = Ending.returned (.bool D) := fun h => by
      rw [hD, decide_eq_true (List.ext_getElem hll fun j h1 h2 => by
        have := h j h1
        simpa [List.getD, List.getElem?_eq_getElem h1, List.getElem?_eq_getElem h2] using this)]
    obtain ⟨n, hn⟩ : ∃ n, n = l.length := ⟨_, rfl⟩
    have hm2 : m.length = n := by omega
    rw [hm2] at h2 ⊢
    rw [← hn] at h1 hl hyes ⊢
    have H := Lib.hid (And.intro h1 (And.intro h2 (And.intro hno hyes))); clear h1 h2 hno hyes hne hll hn hm2 hD
    go_enter Try.func46, Try.ntmps46
    go_wp2_with fail
    go_loopw [5] (fun i wx => ∃ (j : Nat), j ≤ n ∧ i = .int .i64 (j : Int) ∧ (∀ q, q < j → l.getD q ByteArray.empty = m.getD q ByteArray.empty) ∧ Chg w wx (fun _ => False)) (fun i _ => n - (intOf i).toNat)
    case atStart => exact ⟨0, by omega, rfl, fun q h => absurd h (by omega), Chg.refl _ _⟩
    case round =>
      obtain ⟨j, hj, rfl, hq, hc⟩ := hrel
      by_cases hlt : j < n
      · have hlt' : (j : Int) < (n : Int) := by omega
        obtain ⟨b, off, rfl, hb, hcb⟩ := (hc.at' H.out.1 fun _ _ _ _ q => q) (by omega)
        obtain ⟨b2, off2, rfl, hb2, hcb2⟩ := (hc.at' H.out.2.1 fun _ _ _ _ q => q) (by omega)
        obtain ⟨x, hx⟩ : ∃ x, x = l.getD j ByteArray.empty := ⟨_, rfl⟩
        obtain ⟨y, hy⟩ : ∃ y, y = m.getD j ByteArray.empty := ⟨_, rfl⟩
        have e1 : wr.cell? ⟨b, off + j, none⟩ = some (.string x) := by rw [hcb j hlt, hx]
        have e2 : wr.cell? ⟨b2, off2 + j, none⟩ = some (.string y) := by rw [hcb2 j hlt, hy]
        have HQ := Lib.hid (And.intro hq (And.intro hc (And.intro hx hy))); clear hq hc hx hy hcb hcb2
        by_cases hxy : x = y
        · subst hxy
          have hq2 : ∀ q, q < j + 1 → l.getD q ByteArray.empty = m.getD q ByteArray.empty := fun q h => by
            rcases Nat.lt_or_ge q j with h1 | h1
            · exact HQ.out.1 q h1
            · obtain rfl : q = j := by omega
              rw [← HQ.out.2.2.1, ← HQ.out.2.2.2]
          have HQ2 := Lib.hid hq2; clear hq2
          go_wp2_with fail
          go_quiet (fail)
          go_wp2_with fail
          exact ⟨⟨j + 1, by omega, by go_num, HQ2.out, HQ.out.2.1.drewN _⟩, by simp [intOf]; omega⟩
        · have n1 := pq.text_ne hxy
          have hfin := H.out.2.2.1 j (by rw [← HQ.out.2.2.1, ← HQ.out.2.2.2]; exact hxy)
          have HF := Lib.hid hfin; clear hfin
          go_wp2_with fail
          go_quiet (fail)
          go_wp2_with fail
          go_ret
          exact ⟨HF.out, (HQ.out.2.1.drewN _).below (Nat.le_refl _) fun _ q => q.elim⟩
      · obtain rfl : n = j := by omega
        have HF := Lib.hid (And.intro (H.out.2.2.2 hq) hc); clear hq hc hlt
        go_wp2_with fail
        go_ret
        exact ⟨HF.out.1, HF.out.2.below (Nat.le_refl _) fun _ q => q.elim⟩
  · obtain ⟨n1, hn1⟩ : ∃ n, n = l.length := ⟨_, rfl⟩
    obtain ⟨n2, hn2⟩ : ∃ n, n = m.length := ⟨_, rfl⟩
    have HF := Lib.hid (hne hll); clear hne hno
    rw [← hn1, ← hn2] at hll ⊢
    clear h1 h2 hD hl hn1 hn2
    have b1 : ((n1 : Int) == (n2 : Int)) = false := by simp; omega
    have b2 : ¬ (n1 : Int) = (n2 : Int) := by omega
    go_enter Try.func46, Try.ntmps46
    go_wp2_with fail
    go_ret
    exact ⟨HF.out, Below.refl _ _⟩

set_option maxRecDepth 20000 in
set_option maxHeartbeats 4000000 in
theorem pq.ints_any (l m : List Int) (A : Option Addr) (c : Nat) (B : Option Addr) (d : Nat) (w : World) (h1 : At w A l.length (fun j => .int .i64 (l.getD j 0))) (hl : l.length ≤ maxLen) (h2 : At w B m.length (fun j => .int .i64 (m.getD j 0))) (_hm : m.length ≤ maxLen) :
    Calls Try.prog 51 #[.slice A l.length c, .slice B m.length d] w fun e w' => e = .returned (.bool (decide (l = m))) ∧ Below w.heap.size w w' := by
  obtain ⟨D, hD⟩ : ∃ D : Bool, D = decide (l = m) := ⟨_, rfl⟩
  rw [← hD]
  have hno : ∀ j, l.getD j 0 ≠ m.getD j 0 → Ending.returned (.bool false) = Ending.returned (.bool D) := fun j h => by rw [hD, decide_eq_false fun e => h (by rw [e])]
  have hne : l.length ≠ m.length → Ending.returned (.bool false) = Ending.returned (.bool D) := fun h => by rw [hD, decide_eq_false fun e => h (by rw [e])]
  unfold maxLen at hl
  by_cases hll : l.length = m.length
  · have hyes : (∀ j, j < l.length → l.getD j 0 = m.getD j 0) → Ending.returned (.bool true) = Ending.returned (.bool D) := fun h => by
      rw [hD, decide_eq_true (List.ext_getElem hll fun j h1 h2 => by
        have := h j h1
        simpa [List.getD, List.getElem?_eq_getElem h1, List.getElem?_eq_getElem h2] using this)]
    obtain ⟨n, hn⟩ : ∃ n, n = l.length := ⟨_, rfl⟩
    have hm2 : m.length = n := by omega
    rw [hm2] at h2 ⊢
    rw [← hn] at h1 hl hyes ⊢
    have H := Lib.hid (And.intro h1 (And.intro h2 (And.intro hno hyes))); clear h1 h2 hno hyes hne hll hn hm2 hD
    go_enter Try.func51, Try.ntmps51
    go_wp2_with fail
    go_loopw [5] (fun i wx => ∃ (j : Nat), j ≤ n ∧ i = .int .i64 (j : Int) ∧ (∀ q, q < j → l.getD q 0 = m.getD q 0) ∧ Chg w wx (fun _ => False)) (fun i _ => n - (intOf i).toNat)
    case atStart => exact ⟨0, by omega, rfl, fun q h => absurd h (by omega), Chg.refl _ _⟩
    case round =>
      obtain ⟨j, hj, rfl, hq, hc⟩ := hrel
      by_cases hlt : j < n
      · have hlt' : (j : Int) < (n : Int) := by omega
        obtain ⟨b, off, rfl, hb, hcb⟩ := (hc.at' H.out.1 fun _ _ _ _ q => q) (by omega)
        obtain ⟨b2, off2, rfl, hb2, hcb2⟩ := (hc.at' H.out.2.1 fun _ _ _ _ q => q) (by omega)
        obtain ⟨x, hx⟩ : ∃ x, x = l.getD j 0 := ⟨_, rfl⟩
        obtain ⟨y, hy⟩ : ∃ y, y = m.getD j 0 := ⟨_, rfl⟩
        have e1 : wr.cell? ⟨b, off + j, none⟩ = some (.int .i64 x) := by rw [hcb j hlt, hx]
        have e2 : wr.cell? ⟨b2, off2 + j, none⟩ = some (.int .i64 y) := by rw [hcb2 j hlt, hy]
        have HQ := Lib.hid (And.intro hq (And.intro hc (And.intro hx hy))); clear hq hc hx hy hcb hcb2
        by_cases hxy : x = y
        · subst hxy
          have hq2 : ∀ q, q < j + 1 → l.getD q 0 = m.getD q 0 := fun q h => by
            rcases Nat.lt_or_ge q j with h1 | h1
            · exact HQ.out.1 q h1
            · obtain rfl : q = j := by omega
              rw [← HQ.out.2.2.1, ← HQ.out.2.2.2]
          have HQ2 := Lib.hid hq2; clear hq2
          go_wp2_with fail
          go_quiet (fail)
          go_wp2_with fail
          exact ⟨⟨j + 1, by omega, by go_num, HQ2.out, HQ.out.2.1.drewN _⟩, by simp [intOf]; omega⟩
        · have n1 := pq.int_ne hxy
          have hfin := H.out.2.2.1 j (by rw [← HQ.out.2.2.1, ← HQ.out.2.2.2]; exact hxy)
          have HF := Lib.hid hfin; clear hfin
          go_wp2_with fail
          go_quiet (fail)
          go_wp2_with fail
          go_ret
          exact ⟨HF.out, (HQ.out.2.1.drewN _).below (Nat.le_refl _) fun _ q => q.elim⟩
      · obtain rfl : n = j := by omega
        have HF := Lib.hid (And.intro (H.out.2.2.2 hq) hc); clear hq hc hlt
        go_wp2_with fail
        go_ret
        exact ⟨HF.out.1, HF.out.2.below (Nat.le_refl _) fun _ q => q.elim⟩
  · obtain ⟨n1, hn1⟩ : ∃ n, n = l.length := ⟨_, rfl⟩
    obtain ⟨n2, hn2⟩ : ∃ n, n = m.length := ⟨_, rfl⟩
    have HF := Lib.hid (hne hll); clear hne hno
    rw [← hn1, ← hn2] at hll ⊢
    clear h1 h2 hD hl hn1 hn2
    have b1 : ((n1 : Int) == (n2 : Int)) = false := by simp; omega
    have b2 : ¬ (n1 : Int) = (n2 : Int) := by omega
    go_enter Try.func51, Try.ntmps51
    go_wp2_with fail
    go_ret
    exact ⟨HF.out, Below.refl _ _⟩

set_option maxRecDepth 20000 in
theorem pq.equal_any (A : Option Addr) (c : Nat) (L : List Nat) (B : Option Addr) (d : Nat) (M : List Nat) (w : World) (ha : At w A L.length (byteAt L)) (hb : At w B M.length (byteAt M)) :
    Calls Try.prog 48 #[.slice A L.length c, .slice B M.length d] w fun e w' => e = .returned (.bool (decide (strOf L = strOf M))) ∧ w = w' := by
  have hc1 := conv_any (P := Try.prog) (c := c) Try.underlying23 Try.underlying5 Try.underlying9 L rfl ha
  have hc2 := conv_any (P := Try.prog) (c := d) Try.underlying23 Try.underlying5 Try.underlying9 M rfl hb
  obtain ⟨s1, hs1⟩ : ∃ s1, s1 = strOf L := ⟨_, rfl⟩
  obtain ⟨s2, hs2⟩ : ∃ s2, s2 = strOf M := ⟨_, rfl⟩
  rw [← hs1] at hc1 ⊢
  rw [← hs2] at hc2 ⊢
  clear hs1 hs2
  by_cases h : s1 = s2
  · rw [decide_eq_true h]
    subst h
    go_enter Try.func48, Try.ntmps48
    go_wp2
    go_ret
    exact ⟨rfl, rfl⟩
  · rw [decide_eq_false h]
    have hs1 : (s1.toList == s2.toList) = false := pq.text_ne h
    go_enter Try.func48, Try.ntmps48
    go_wp2
    go_ret
    exact ⟨rfl, rfl⟩

/-- The same request, field by field. -/
def PReq.Same (a b : PReq) : Prop := a.kind = b.kind ∧ a.corr = b.corr ∧ a.client = b.client ∧ a.topic = b.topic ∧ a.part = b.part ∧ a.off = b.off ∧ a.time = b.time ∧ a.most = b.most ∧ a.group = b.group ∧ a.member = b.member ∧ a.gen = b.gen ∧ a.names = b.names ∧ strOf a.data = strOf b.data
instance (a b : PReq) : Decidable (a.Same b) := by unfold PReq.Same; infer_instance
def PAns.Same (a b : PAns) : Prop := a.corr = b.corr ∧ a.code = b.code ∧ a.off = b.off ∧ a.last = b.last ∧ a.gen = b.gen ∧ a.member = b.member ∧ a.leader = b.leader ∧ a.names = b.names ∧ a.nums = b.nums ∧ strOf a.data = strOf b.data
instance (a b : PAns) : Decidable (a.Same b) := by unfold PAns.Same; infer_instance
theorem pq.two {w : World} (a b : Obj) : Below w.heap.size w ((w.alloc a).alloc b) :=
  have h := (Below.refl w.heap.size w).alloc (Nat.le_refl _) a
  h.alloc h.size b

end Go.Proofs.Ytimcpbbcealkiaa

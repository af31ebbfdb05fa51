/- commits: what may be, records as they are written, the program and the document (chapter 18). -/
import Derived.BigQuiet
import Derived.Test.YtkkpbnhagobhmaaConv
import Derived.Test.YtkkpbnhagobhmaaProg
import Derived.Laws.Rows
import Derived.Laws.Tables
import Derived.Deep.Cut
import Derived.Test.YtkkpbnhagobhmaaBlk
import Derived.Test.YtkkpbnhagobhmaaWrT
import Derived.Test.YtkkpbnhagobhmaaWrL
import Derived.Test.YtkkpbnhagobhmaaPlanE
import Derived.Test.YtkkpbnhagobhmaaLmA
import Derived.Test.YtkkpbnhagobhmaaRefX
import Derived.Test.YtkkpbnhagobhmaaBwB
namespace Go.Proofs.Ytkkpbnhagobhmaa
section
open Go.RowKit
set_option maxRecDepth 20000
def cm.letter (x : Nat) : Bool := (decide (97 ≤ x) && decide (x ≤ 122)) || (decide (48 ≤ x) && decide (x ≤ 57))
/-- A name that may be. -/
def cm.topic (s : ByteArray) : Bool := decide (1 ≤ s.size) && decide (s.size ≤ 20) && (strNats s).all cm.letter
theorem cm.digit_any (x : Nat) (w : World) (hx : x < 256) : Calls Try.prog 68 #[.int .u8 (x : Int)] w fun e w' => e = .returned (.bool (decide (48 ≤ x) && decide (x ≤ 57))) ∧ w = w' := by
  by_cases h1 : 48 ≤ x
  · have d1 : (48 : Int) ≤ (x : Int) := by omega
    by_cases h2 : x ≤ 57
    · have d2 : (x : Int) ≤ 57 := by omega
      rw [decide_eq_true h1, decide_eq_true h2]
      go_enter Try.func68, Try.ntmps68
      go_wp2
      go_ret
      exact ⟨rfl, rfl⟩
    · have d2 : ¬ (x : Int) ≤ 57 := by omega
      rw [decide_eq_true h1, decide_eq_false h2]
      go_enter Try.func68, Try.ntmps68
      go_wp2
      go_ret
      exact ⟨rfl, rfl⟩
  · have d1 : ¬ (48 : Int) ≤ (x : Int) := by omega
    rw [decide_eq_false h1]
    go_enter Try.func68, Try.ntmps68
    go_wp2
    go_ret
    exact ⟨rfl, rfl⟩
theorem cm.get (s : ByteArray) (j : Nat) (h : j < s.size) : (strNats s)[j]? = some (s[j]'h).toNat := by
  unfold strNats
  rw [List.getElem?_map]
  have h1 : s.data.toList[j]? = some (s[j]'h) := by
    rw [Array.getElem?_toList]
    exact Array.getElem?_eq_getElem h
  rw [h1]
  rfl
theorem cm.topic_size {s : ByteArray} (h : s.size < 1 ∨ 20 < s.size) : cm.topic s = false := by
  unfold cm.topic
  rcases h with h | h
  · rw [decide_eq_false (by omega)]; rfl
  · rw [decide_eq_false (p := s.size ≤ 20) (by omega), Bool.and_false]; rfl
theorem cm.topic_no {s : ByteArray} {j : Nat} (h : j < s.size) (hl : cm.letter (s[j]'h).toNat = false) : cm.topic s = false := by
  have h1 : (strNats s).all cm.letter = false := by
    rw [List.all_eq_false]
    exact ⟨_, List.mem_of_getElem? (cm.get s j h), by rw [hl]; simp⟩
  unfold cm.topic
  rw [h1, Bool.and_false]
theorem cm.topic_yes {s : ByteArray} (h1 : 1 ≤ s.size) (h2 : s.size ≤ 20) (h : ∀ x ∈ (strNats s).take s.size, cm.letter x = true) : cm.topic s = true := by
  have h3 : (strNats s).all cm.letter = true := by
    rw [List.all_eq_true]
    rw [← strNats_len s, List.take_length] at h
    exact h
  unfold cm.topic
  rw [h3, decide_eq_true h1, decide_eq_true h2]
  rfl
theorem cm.take_all {s : ByteArray} {j : Nat} (h : j < s.size) (hall : ∀ x ∈ (strNats s).take j, cm.letter x = true) (hl : cm.letter (s[j]'h).toNat = true) : ∀ x ∈ (strNats s).take (j + 1), cm.letter x = true := by
  intro x hx
  rw [List.take_add_one, cm.get s j h] at hx
  rcases List.mem_append.1 hx with h3 | h3
  · exact hall x h3
  · have : x = (s[j]'h).toNat := by simpa using h3
    rw [this]
    exact hl
set_option maxHeartbeats 2000000 in
theorem cm.topic_any (s : ByteArray) (w : World) (hs : s.size ≤ maxLen) : Calls Try.prog 54 #[.string s] w fun e w' => e = .returned (.bool (cm.topic s)) ∧ w = w' := by
  unfold maxLen at hs
  by_cases h1 : s.size < 1
  · rw [cm.topic_size (.inl h1)]
    have d1 : decide (s.size < 1) = true := decide_eq_true h1
    have d1' : decide ((s.size : Int) < 1) = true := decide_eq_true (by omega)
    go_enter Try.func54, Try.ntmps54
    go_wp2
    go_ret
    exact ⟨rfl, rfl⟩
  have d1 : decide (s.size < 1) = false := decide_eq_false h1
  have d1' : decide ((s.size : Int) < 1) = false := decide_eq_false (by omega)
  by_cases h2 : 20 < s.size
  · rw [cm.topic_size (.inr h2)]
    have d2 : decide (20 < s.size) = true := decide_eq_true h2
    have d2' : decide ((20 : Int) < (s.size : Int)) = true := decide_eq_true (by omega)
    go_enter Try.func54, Try.ntmps54
    go_wp2
    go_ret
    exact ⟨rfl, rfl⟩
  have d2 : decide (20 < s.size) = false := decide_eq_false h2
  have d2' : decide ((20 : Int) < (s.size : Int)) = false := decide_eq_false (by omega)
  have hyes := fun h => cm.topic_yes (s := s) (by omega) (by omega) h
  have hno := fun (j : Nat) (h : j < s.size) => cm.topic_no (s := s) h
  have htk := fun (j : Nat) (h : j < s.size) => cm.take_all (s := s) h
  obtain ⟨R, hR⟩ : ∃ R, R = cm.topic s := ⟨_, rfl⟩
  rw [← hR] at hyes hno ⊢
  have HH := Lib.hid (And.intro hyes (And.intro hno htk)); clear hyes hno htk hR
  go_enter Try.func54, Try.ntmps54
  go_wp2_with fail
  go_loopw [3, 14] (fun _ i wx => ∃ j : Nat, j ≤ s.size ∧ i = .int .i64 (j : Int) ∧ (∀ x ∈ (strNats s).take j, cm.letter x = true) ∧ w = wx) (fun _ i _ => s.size - (intOf i).toNat)
  case atStart => exact ⟨0, by omega, rfl, (fun x hx => by simp at hx), rfl⟩
  case round =>
    obtain ⟨j, hj, rfl, hall, rfl⟩ := hrel
    by_cases hlt : j < s.size
    · have hlt' : (j : Int) < (s.size : Int) := by omega
      have hx8 : (s[j]'hlt).toNat < 256 := UInt8.toNat_lt _
      have hdig := cm.digit_any (s[j]'hlt).toNat w hx8
      have HD := Lib.hid (And.intro hdig hall); clear hdig hall
      have hcase : (97 ≤ (s[j]'hlt).toNat ∧ (s[j]'hlt).toNat ≤ 122) ∨ (97 ≤ (s[j]'hlt).toNat ∧ 122 < (s[j]'hlt).toNat) ∨ ((s[j]'hlt).toNat < 97 ∧ 48 ≤ (s[j]'hlt).toNat ∧ (s[j]'hlt).toNat ≤ 57) ∨ ((s[j]'hlt).toNat < 97 ∧ ¬ (48 ≤ (s[j]'hlt).toNat ∧ (s[j]'hlt).toNat ≤ 57)) := by omega
      rcases hcase with ⟨e1, e2⟩ | ⟨e1, e2⟩ | ⟨e1, e2, e3⟩ | ⟨e1, e2⟩
      · have hl : cm.letter (s[j]'hlt).toNat = true := by unfold cm.letter; rw [decide_eq_true e1, decide_eq_true e2]; rfl
        have HA := Lib.hid (HH.out.2.2 j hlt HD.out.2 hl); clear hl
        have f1 : (97 : Int) ≤ ((s[j]'hlt).toNat : Int) := by omega
        have f2 : ((s[j]'hlt).toNat : Int) ≤ 122 := by omega
        go_wp2_with fail
        go_roundw
        case rel => exact ⟨j + 1, by omega, by go_num, HA.out, (by first | rfl | trivial)⟩
        case measure => simp [intOf]; omega
      · have hl : cm.letter (s[j]'hlt).toNat = false := by unfold cm.letter; rw [decide_eq_false (p := (s[j]'hlt).toNat ≤ 122) (by omega), decide_eq_false (p := (s[j]'hlt).toNat ≤ 57) (by omega)]; simp
        have HR := Lib.hid (HH.out.2.1 j hlt hl); clear hl
        have f1 : (97 : Int) ≤ ((s[j]'hlt).toNat : Int) := by omega
        have f2 : ¬ ((s[j]'hlt).toNat : Int) ≤ 122 := by omega
        have hd := HD.out.1
        rw [decide_eq_false (p := (s[j]'hlt).toNat ≤ 57) (by omega), Bool.and_false] at hd
        have HDD := Lib.hid hd; clear hd
        go_wp2_with (go_at_call 68; refine HDD.out.mono ?_; rintro en w2 ⟨rfl, h3⟩; subst h3)
        go_ret
        exact ⟨by rw [HR.out] <;> rfl, rfl⟩
      · have hl : cm.letter (s[j]'hlt).toNat = true := by unfold cm.letter; rw [decide_eq_true e2, decide_eq_true e3]; simp
        have HA := Lib.hid (HH.out.2.2 j hlt HD.out.2 hl); clear hl
        have f1 : ¬ (97 : Int) ≤ ((s[j]'hlt).toNat : Int) := by omega
        have hd := HD.out.1
        rw [decide_eq_true e2, decide_eq_true e3, Bool.and_true] at hd
        have HDD := Lib.hid hd; clear hd
        go_wp2_with (go_at_call 68; refine HDD.out.mono ?_; rintro en w2 ⟨rfl, h3⟩; subst h3)
        go_roundw
        case rel => exact ⟨j + 1, by omega, by go_num, HA.out, (by first | rfl | trivial)⟩
        case measure => simp [intOf]; omega
      · have hl : cm.letter (s[j]'hlt).toNat = false := by
          unfold cm.letter
          rw [decide_eq_false (p := 97 ≤ (s[j]'hlt).toNat) (by omega), Bool.false_and, Bool.false_or]
          by_cases h5 : 48 ≤ (s[j]'hlt).toNat
          · rw [decide_eq_false (p := (s[j]'hlt).toNat ≤ 57) (by omega), Bool.and_false]
          · rw [decide_eq_false h5, Bool.false_and]
        have hd0 : (decide (48 ≤ (s[j]'hlt).toNat) && decide ((s[j]'hlt).toNat ≤ 57)) = false := by
          by_cases h5 : 48 ≤ (s[j]'hlt).toNat
          · rw [decide_eq_false (p := (s[j]'hlt).toNat ≤ 57) (by omega), Bool.and_false]
          · rw [decide_eq_false h5, Bool.false_and]
        have HR := Lib.hid (HH.out.2.1 j hlt hl); clear hl
        have f1 : ¬ (97 : Int) ≤ ((s[j]'hlt).toNat : Int) := by omega
        have hd := HD.out.1
        rw [hd0] at hd
        have HDD := Lib.hid hd; clear hd hd0
        go_wp2_with (go_at_call 68; refine HDD.out.mono ?_; rintro en w2 ⟨rfl, h3⟩; subst h3)
        go_ret
        exact ⟨by rw [HR.out] <;> rfl, rfl⟩
    · obtain rfl : s.size = j := by omega
      have hlt' : ¬ (s.size : Int) < (s.size : Int) := by omega
      have HR := Lib.hid (HH.out.1 hall); clear hall hlt
      go_wp2_with fail
      go_ret
      exact ⟨by rw [HR.out] <;> rfl, rfl⟩
theorem cm.topic_eq (s : ByteArray) (h : ∀ x ∈ (strNats s).take s.size, cm.letter x = true) : cm.topic s = (decide (1 ≤ s.size) && decide (s.size ≤ 20)) := by
  have h3 : (strNats s).all cm.letter = true := by
    rw [List.all_eq_true]
    rw [← strNats_len s, List.take_length] at h
    exact h
  unfold cm.topic
  rw [h3, Bool.and_true]
set_option maxHeartbeats 2000000 in
theorem cm.reftopic_any (s : ByteArray) (w : World) (hs : s.size ≤ maxLen) : Calls Try.prog 29 #[.string s] w fun e w' => e = .returned (.bool (cm.topic s)) ∧ w = w' := by
  unfold maxLen at hs
  have hyes := fun h => cm.topic_eq s h
  have hno := fun (j : Nat) (h : j < s.size) => cm.topic_no (s := s) h
  have htk := fun (j : Nat) (h : j < s.size) => cm.take_all (s := s) h
  obtain ⟨R, hR⟩ : ∃ R, R = cm.topic s := ⟨_, rfl⟩
  rw [← hR] at hyes hno ⊢
  have HH := Lib.hid (And.intro hyes (And.intro hno htk)); clear hyes hno htk hR
  go_enter Try.func29, Try.ntmps29
  go_wp2_with fail
  go_loopw [3] (fun i wx => ∃ j : Nat, j ≤ s.size ∧ i = .int .i64 (j : Int) ∧ (∀ x ∈ (strNats s).take j, cm.letter x = true) ∧ w = wx) (fun i _ => s.size - (intOf i).toNat)
  case atStart => exact ⟨0, by omega, rfl, (fun x hx => by simp at hx), rfl⟩
  case round =>
    obtain ⟨j, hj, rfl, hall, rfl⟩ := hrel
    by_cases hlt : j < s.size
    · have hlt' : (j : Int) < (s.size : Int) := by omega
      have hx8 : (s[j]'hlt).toNat < 256 := UInt8.toNat_lt _
      have HD := Lib.hid hall; clear hall
      have hcase : (97 ≤ (s[j]'hlt).toNat ∧ (s[j]'hlt).toNat ≤ 122) ∨ (97 ≤ (s[j]'hlt).toNat ∧ 122 < (s[j]'hlt).toNat) ∨ ((s[j]'hlt).toNat < 97 ∧ 48 ≤ (s[j]'hlt).toNat ∧ (s[j]'hlt).toNat ≤ 57) ∨ ((s[j]'hlt).toNat < 97 ∧ 48 ≤ (s[j]'hlt).toNat ∧ 57 < (s[j]'hlt).toNat) ∨ ((s[j]'hlt).toNat < 97 ∧ (s[j]'hlt).toNat < 48) := by omega
      rcases hcase with ⟨e1, e2⟩ | ⟨e1, e2⟩ | ⟨e1, e2, e3⟩ | ⟨e1, e2, e3⟩ | ⟨e1, e2⟩
      · have hl : cm.letter (s[j]'hlt).toNat = true := by unfold cm.letter; rw [decide_eq_true e1, decide_eq_true e2]; rfl
        have HA := Lib.hid (HH.out.2.2 j hlt HD.out hl); clear hl
        have f1 : ¬ ((s[j]'hlt).toNat : Int) < 97 := by omega
        have f2 : ¬ (122 : Int) < ((s[j]'hlt).toNat : Int) := by omega
        go_wp2_with fail
        go_roundw
        case rel => exact ⟨j + 1, by omega, by go_num, HA.out, (by first | rfl | trivial)⟩
        case measure => simp [intOf]; omega
      · have hl : cm.letter (s[j]'hlt).toNat = false := by unfold cm.letter; rw [decide_eq_false (p := (s[j]'hlt).toNat ≤ 122) (by omega), decide_eq_false (p := (s[j]'hlt).toNat ≤ 57) (by omega)]; simp
        have HR := Lib.hid (HH.out.2.1 j hlt hl); clear hl
        have f1 : ¬ ((s[j]'hlt).toNat : Int) < 97 := by omega
        have f2 : (122 : Int) < ((s[j]'hlt).toNat : Int) := by omega
        have f3 : ¬ ((s[j]'hlt).toNat : Int) < 48 := by omega
        have f4 : (57 : Int) < ((s[j]'hlt).toNat : Int) := by omega
        go_wp2_with fail
        go_ret
        exact ⟨by rw [HR.out] <;> rfl, rfl⟩
      · have hl : cm.letter (s[j]'hlt).toNat = true := by unfold cm.letter; rw [decide_eq_true e2, decide_eq_true e3]; simp
        have HA := Lib.hid (HH.out.2.2 j hlt HD.out hl); clear hl
        have f1 : ((s[j]'hlt).toNat : Int) < 97 := by omega
        have f3 : ¬ ((s[j]'hlt).toNat : Int) < 48 := by omega
        have f4 : ¬ (57 : Int) < ((s[j]'hlt).toNat : Int) := by omega
        go_wp2_with fail
        go_roundw
        case rel => exact ⟨j + 1, by omega, by go_num, HA.out, (by first | rfl | trivial)⟩
        case measure => simp [intOf]; omega
      · have hl : cm.letter (s[j]'hlt).toNat = false := by
          unfold cm.letter
          rw [decide_eq_false (p := 97 ≤ (s[j]'hlt).toNat) (by omega), Bool.false_and, Bool.false_or, decide_eq_false (p := (s[j]'hlt).toNat ≤ 57) (by omega), Bool.and_false]
        have HR := Lib.hid (HH.out.2.1 j hlt hl); clear hl
        have f1 : ((s[j]'hlt).toNat : Int) < 97 := by omega
        have f3 : ¬ ((s[j]'hlt).toNat : Int) < 48 := by omega
        have f4 : (57 : Int) < ((s[j]'hlt).toNat : Int) := by omega
        go_wp2_with fail
        go_ret
        exact ⟨by rw [HR.out] <;> rfl, rfl⟩
      · have hl : cm.letter (s[j]'hlt).toNat = false := by
          unfold cm.letter
          rw [decide_eq_false (p := 97 ≤ (s[j]'hlt).toNat) (by omega), Bool.false_and, Bool.false_or, decide_eq_false (p := 48 ≤ (s[j]'hlt).toNat) (by omega), Bool.false_and]
        have HR := Lib.hid (HH.out.2.1 j hlt hl); clear hl
        have f1 : ((s[j]'hlt).toNat : Int) < 97 := by omega
        have f3 : ((s[j]'hlt).toNat : Int) < 48 := by omega
        go_wp2_with fail
        go_ret
        exact ⟨by rw [HR.out] <;> rfl, rfl⟩
    · obtain rfl : s.size = j := by omega
      have hlt' : ¬ (s.size : Int) < (s.size : Int) := by omega
      have hR := HH.out.1 hall
      clear hall hlt
      by_cases h1 : 1 ≤ s.size
      · have f1 : (1 : Int) ≤ (s.size : Int) := by omega
        by_cases h2 : s.size ≤ 20
        · have f2 : (s.size : Int) ≤ 20 := by omega
          rw [decide_eq_true h1, decide_eq_true h2] at hR
          have HR := Lib.hid hR; clear hR
          go_wp2_with fail
          go_ret
          exact ⟨by rw [HR.out] <;> rfl, rfl⟩
        · have f2 : ¬ (s.size : Int) ≤ 20 := by omega
          rw [decide_eq_true h1, decide_eq_false h2] at hR
          have HR := Lib.hid hR; clear hR
          go_wp2_with fail
          go_ret
          exact ⟨by rw [HR.out] <;> rfl, rfl⟩
      · have f1 : ¬ (1 : Int) ≤ (s.size : Int) := by omega
        rw [decide_eq_false h1, Bool.false_and] at hR
        have HR := Lib.hid hR; clear hR
        go_wp2_with fail
        go_ret
        exact ⟨by rw [HR.out] <;> rfl, rfl⟩
end
section
open Go.RowKit
set_option maxRecDepth 20000
/-- An entry. -/
structure CEnt where
  grp : ByteArray
  top : ByteArray
  part : Int
  off : Int
def CEnt.cells (e : CEnt) : Array Value := #[.string e.grp, .string e.top, .int .i64 e.part, .int .i64 e.off]
def CEnt.fit (e : CEnt) : Prop := e.grp.size ≤ maxLen ∧ e.top.size ≤ maxLen
def cm.place (g t : ByteArray) (p : Int) : Bool := cm.topic g && cm.topic t && decide (0 ≤ p) && decide (p ≤ 999)
def CEnt.ok (e : CEnt) : Bool := cm.place e.grp e.top e.part && decide (0 ≤ e.off) && decide (e.off ≤ 4611686018427387904)
theorem cm.chg_row (w : World) (g : Nat) (cs : Array Value) : Chg w (w.setRow g cs) (fun k => k = g) := ⟨rfl, rfl, rfl, by simp, fun k _ hk => setRow_other w g k cs hk⟩
theorem cm.info_place : (Try.prog.info? 72).map (·.size) = some 3 := by kernel_rfl
theorem cm.place_any (e : CEnt) (w : World) : Calls Try.prog 31 #[.agg e.cells] w fun en w' => en = .returned (.agg #[.string e.grp, .string e.top, .int .i64 e.part]) ∧ Below w.heap.size w w' := by
  unfold CEnt.cells
  go_enter Try.func31, Try.ntmps31
  go_upto_region 1 with fail
  have hb1 : Below w.heap.size w ((w.alloc (.cells #[.string e.grp, .string e.top, .int .i64 e.part, .int .i64 e.off] 42)).alloc (.cells #[.string ByteArray.empty, .string ByteArray.empty, .int .i64 0] 72)) := ((Below.refl w.heap.size w).alloc (Nat.le_refl _) _).alloc (by simp) _
  have hz1 : Blk ((w.alloc (.cells #[.string e.grp, .string e.top, .int .i64 e.part, .int .i64 e.off] 42)).alloc (.cells #[.string ByteArray.empty, .string ByteArray.empty, .int .i64 0] 72)) (w.heap.size + 1) 72 #[.string ByteArray.empty, .string ByteArray.empty, .int .i64 0] := heap_alloc2_new w _ _
  have HZ := Lib.hid (And.intro hb1 hz1); clear hb1 hz1
  go_wp2_with (refine wpList_store_row rfl 72 (.tmp 2) (.tmp 9) rfl (w.heap.size + 1) #[.string e.grp, .string e.top, .int .i64 e.part] rfl rfl 72 _ HZ.out.2 cm.info_place rfl (by simp [Value.oneCell']) ?_)
  have hz2 : Blk (((w.alloc (.cells #[.string e.grp, .string e.top, .int .i64 e.part, .int .i64 e.off] 42)).alloc (.cells #[.string ByteArray.empty, .string ByteArray.empty, .int .i64 0] 72)).setRow (w.heap.size + 1) #[.string e.grp, .string e.top, .int .i64 e.part]) (w.heap.size + 1) 72 #[.string e.grp, .string e.top, .int .i64 e.part] := setRow_heap _ _ _ _ _ _ HZ.out.2
  have hb2 := HZ.out.1.trans ((cm.chg_row _ (w.heap.size + 1) #[.string e.grp, .string e.top, .int .i64 e.part]).below HZ.out.1.size fun k hk => by have hk : k = w.heap.size + 1 := hk; omega)
  refine bodyPost_ret (results_cell_row rfl _ _ (w.heap.size + 1) 72 _ (0, 0) _ rfl hz2 Try.underlying72 rfl cm.info_place) rfl ?_
  exact ⟨rfl, hb2⟩
theorem cm.may_any (g t : ByteArray) (p : Int) (w : World) (hg : g.size ≤ maxLen) (ht : t.size ≤ maxLen) : Calls Try.prog 52 #[.agg #[.string g, .string t, .int .i64 p]] w fun en w' => en = .returned (.bool (cm.place g t p)) ∧ Below w.heap.size w w' := by
  have hcg := fun wx => cm.topic_any g wx hg
  have hct := fun wx => cm.topic_any t wx ht
  unfold cm.place
  obtain ⟨b1, hb1⟩ : ∃ b, b = cm.topic g := ⟨_, rfl⟩
  obtain ⟨b2, hb2⟩ : ∃ b, b = cm.topic t := ⟨_, rfl⟩
  rw [← hb1] at hcg ⊢
  rw [← hb2] at hct ⊢
  clear hb1 hb2 hg ht
  have H := Lib.hid (And.intro hcg hct); clear hcg hct
  cases b1 with
  | false =>
    go_enter Try.func52, Try.ntmps52
    go_wp2_with (go_at_call 54; refine (H.out.1 _).mono ?_; rintro en w2 ⟨rfl, h3⟩; subst h3)
    go_ret
    exact ⟨rfl, (Below.refl w.heap.size w).alloc (Nat.le_refl _) _⟩
  | true =>
    have hcg := H.out.1
    have hct := H.out.2
    have HG := Lib.hid hcg
    have HT := Lib.hid hct
    clear hcg hct H
    cases b2 with
    | false =>
      go_enter Try.func52, Try.ntmps52
      go_wp2_with fail
      refine (HG.out _).mono ?_
      rintro en w2 ⟨rfl, h3⟩
      subst h3
      go_wp2_with fail
      refine (HT.out _).mono ?_
      rintro en w2 ⟨rfl, h3⟩
      subst h3
      go_wp2_with fail
      go_ret
      exact ⟨rfl, (Below.refl w.heap.size w).alloc (Nat.le_refl _) _⟩
    | true =>
      by_cases h1 : 0 ≤ p
      · by_cases h2 : p ≤ 999
        · rw [decide_eq_true h1, decide_eq_true h2]
          go_enter Try.func52, Try.ntmps52
          go_wp2_with fail
          refine (HG.out _).mono ?_
          rintro en w2 ⟨rfl, h3⟩
          subst h3
          go_wp2_with fail
          refine (HT.out _).mono ?_
          rintro en w2 ⟨rfl, h3⟩
          subst h3
          go_wp2_with fail
          go_ret
          exact ⟨rfl, (Below.refl w.heap.size w).alloc (Nat.le_refl _) _⟩
        · rw [decide_eq_true h1, decide_eq_false h2]
          go_enter Try.func52, Try.ntmps52
          go_wp2_with fail
          refine (HG.out _).mono ?_
          rintro en w2 ⟨rfl, h3⟩
          subst h3
          go_wp2_with fail
          refine (HT.out _).mono ?_
          rintro en w2 ⟨rfl, h3⟩
          subst h3
          go_wp2_with fail
          go_ret
          exact ⟨by rw [decide_eq_false (p := p ≤ 999) (by omega)]; rfl, (Below.refl w.heap.size w).alloc (Nat.le_refl _) _⟩
      · rw [decide_eq_false h1]
        go_enter Try.func52, Try.ntmps52
        go_wp2_with fail
        refine (HG.out _).mono ?_
        rintro en w2 ⟨rfl, h3⟩
        subst h3
        go_wp2_with fail
        refine (HT.out _).mono ?_
        rintro en w2 ⟨rfl, h3⟩
        subst h3
        go_wp2_with fail
        go_ret
        exact ⟨rfl, (Below.refl w.heap.size w).alloc (Nat.le_refl _) _⟩
theorem cm.gen_any (g : ByteArray) (n : Int) (w : World) (hg : g.size ≤ maxLen) : Calls Try.prog 34 #[.string g, .int .i64 n] w fun en w' => en = .returned (.int .i64 (if cm.topic g = true ∧ 0 ≤ n ∧ n ≤ 1099511627776 then 0 else 1)) ∧ w = w' := by
  have hcg := fun wx => cm.topic_any g wx hg
  obtain ⟨b1, hb1⟩ : ∃ b, b = cm.topic g := ⟨_, rfl⟩
  rw [← hb1] at hcg ⊢
  clear hb1 hg
  have H := Lib.hid hcg; clear hcg
  cases b1 with
  | false =>
    rw [if_neg (by simp)]
    go_enter Try.func34, Try.ntmps34
    go_wp2_with (go_at_call 54; refine (H.out _).mono ?_; rintro en w2 ⟨rfl, h3⟩; subst h3)
    go_ret
    exact ⟨rfl, rfl⟩
  | true =>
    by_cases h1 : n < 0
    · rw [if_neg (by omega)]
      have d1 : decide (n < 0) = true := decide_eq_true h1
      go_enter Try.func34, Try.ntmps34
      go_wp2_with (go_at_call 54; refine (H.out _).mono ?_; rintro en w2 ⟨rfl, h3⟩; subst h3)
      go_ret
      exact ⟨rfl, rfl⟩
    · by_cases h2 : 1099511627776 < n
      · rw [if_neg (by omega)]
        have d1 : decide (n < 0) = false := decide_eq_false h1
        have d2 : decide (1099511627776 < n) = true := decide_eq_true h2
        go_enter Try.func34, Try.ntmps34
        go_wp2_with (go_at_call 54; refine (H.out _).mono ?_; rintro en w2 ⟨rfl, h3⟩; subst h3)
        go_ret
        exact ⟨rfl, rfl⟩
      · rw [if_pos ⟨rfl, by omega, by omega⟩]
        have d1 : decide (n < 0) = false := decide_eq_false h1
        have d2 : decide (1099511627776 < n) = false := decide_eq_false h2
        go_enter Try.func34, Try.ntmps34
        go_wp2_with (go_at_call 54; refine (H.out _).mono ?_; rintro en w2 ⟨rfl, h3⟩; subst h3)
        go_ret
        exact ⟨rfl, rfl⟩
end
section
open Go.RowKit
set_option maxRecDepth 20000
theorem cm.info_entry : (Try.prog.info? 42).map (·.size) = some 4 := by kernel_rfl
theorem cm.info_rec : (Try.prog.info? 37).map (·.size) = some 6 := by kernel_rfl
theorem cm.check_any (e : CEnt) (w : World) (h : e.fit) : Calls Try.prog 30 #[.agg e.cells] w fun en w' => en = .returned (.int .i64 (if e.ok = true then 0 else 1)) ∧ Below w.heap.size w w' := by
  have hp := fun wx => cm.place_any e wx
  have hm := fun wx => cm.may_any e.grp e.top e.part wx h.1 h.2
  have hok : e.ok = (cm.place e.grp e.top e.part && decide (0 ≤ e.off) && decide (e.off ≤ 4611686018427387904)) := rfl
  obtain ⟨ok, hk⟩ : ∃ b, b = e.ok := ⟨_, rfl⟩
  rw [← hk] at hok ⊢
  obtain ⟨b, hb⟩ : ∃ b, b = cm.place e.grp e.top e.part := ⟨_, rfl⟩
  rw [← hb] at hok hm
  clear hk hb h
  obtain ⟨R, hR⟩ : ∃ R : Int, R = if ok = true then 0 else 1 := ⟨_, rfl⟩
  rw [← hR]
  obtain ⟨g, t, p, o⟩ := e
  unfold CEnt.cells at hp ⊢
  obtain ⟨w1, hw1⟩ : ∃ w1, w1 = w.alloc (.cells #[.string g, .string t, .int .i64 p, .int .i64 o] 42) := ⟨_, rfl⟩
  have hk1 : Blk w1 w.heap.size 42 #[.string g, .string t, .int .i64 p, .int .i64 o] := by rw [hw1]; exact Blk.new _ _ _
  have hb1 : Below w.heap.size w w1 := by rw [hw1]; exact (Below.refl _ _).alloc (Nat.le_refl _) _
  have H := Lib.hid (And.intro hp (And.intro hm (And.intro hk1 hb1))); clear hp hm hk1 hb1
  go_enter Try.func30, Try.ntmps30
  go_upto_region 1 with fail
  rw [← hw1]
  clear hw1
  go_wp2_with (first
    | (show Go.wpList _ _ _ (⟨_, .load _ (.tmp 1), _, _, _, _⟩ :: _) _ _; refine wpList_load_row rfl 42 (.tmp 1) rfl w.heap.size rfl 42 #[.string g, .string t, .int .i64 p, .int .i64 o] (0, 0) _ H.out.2.2.1 Try.underlying42 rfl cm.info_entry ?_)
    | fail)
  refine (H.out.1 w1).mono ?_
  rintro en w2 ⟨rfl, h2⟩
  have hb2 : Below w.heap.size w w2 := H.out.2.2.2.trans (h2.mono H.out.2.2.2.size)
  have hk2 : Blk w2 w.heap.size 42 #[.string g, .string t, .int .i64 p, .int .i64 o] := (chg_of (P := fun _ => False) h2).blk H.out.2.2.1 fun q => q
  have H2 := Lib.hid (And.intro hb2 hk2); clear hb2 hk2 h2
  go_wp2_with fail
  refine (H.out.2.1 w2).mono ?_
  rintro en w3 ⟨rfl, h3⟩
  have hb3 : Below w.heap.size w w3 := H2.out.1.trans (h3.mono H2.out.1.size)
  have hk3 : Blk w3 w.heap.size 42 #[.string g, .string t, .int .i64 p, .int .i64 o] := (chg_of (P := fun _ => False) h3).blk H2.out.2 fun q => q
  have c3 := hk3.cell 3 (v := .int .i64 o) rfl
  have cl := hk3.lt
  have H3 := Lib.hid hb3; clear hb3 hk3 h3
  cases b with
  | false =>
    obtain rfl : ok = false := by rw [hok]; rfl
    clear hok
    have e0 : R = 1 := by rw [hR]; rfl
    clear hR
    have HR := Lib.hid e0; clear e0
    go_wp2
    go_ret
    exact ⟨by rw [HR.out]; rfl, H3.out⟩
  | true =>
    by_cases h1 : o < 0
    · obtain rfl : ok = false := by rw [hok, decide_eq_false (p := 0 ≤ o) (by omega)]; rfl
      clear hok
      have e0 : R = 1 := by rw [hR]; rfl
      clear hR
      have HR := Lib.hid e0; clear e0
      have d1 : decide (o < 0) = true := decide_eq_true h1
      go_wp2
      go_ret
      exact ⟨by rw [HR.out]; rfl, H3.out⟩
    · have d1 : decide (o < 0) = false := decide_eq_false h1
      by_cases h2 : 4611686018427387904 < o
      · obtain rfl : ok = false := by rw [hok, decide_eq_false (p := o ≤ 4611686018427387904) (by omega)]; simp
        clear hok
        have e0 : R = 1 := by rw [hR]; rfl
        clear hR
        have HR := Lib.hid e0; clear e0
        have d2 : decide (4611686018427387904 < o) = true := decide_eq_true h2
        go_wp2
        go_ret
        exact ⟨by rw [HR.out]; rfl, H3.out⟩
      · obtain rfl : ok = true := by rw [hok, decide_eq_true (p := 0 ≤ o) (by omega), decide_eq_true (p := o ≤ 4611686018427387904) (by omega)]; rfl
        clear hok
        have e0 : R = 0 := by rw [hR]; rfl
        clear hR
        have HR := Lib.hid e0; clear e0
        have d2 : decide (4611686018427387904 < o) = false := decide_eq_false h2
        go_wp2
        go_ret
        exact ⟨by rw [HR.out]; rfl, H3.out⟩
/-- A text, written. -/
def cm.text (s : ByteArray) : List Nat := num.put s.size ++ strNats s
theorem cm.text_len (s : ByteArray) : s.size + 1 ≤ (cm.text s).length ∧ (cm.text s).length ≤ s.size + 10 := by
  have := num.put_bd (s.size : Int)
  unfold cm.text
  rw [List.length_append, strNats_len]
  omega
theorem cm.wr_text {w3 w : World} {B p : Nat} {L : List Nat} (h : WrL w3 B p L w) (s : ByteArray) (hL : L.length + s.size ≤ 70368744177000) :
    Calls Try.prog 48 #[.pointer (some ⟨p, 0, none⟩), .string s] w fun e w' => e = .returned (.pointer (some ⟨p, 0, none⟩)) ∧ WrL w3 B p (L ++ cm.text s) w' := by
  obtain ⟨⟨v, q1⟩, q2, q3⟩ := h
  refine (wire.text_any B p v L false s w q1 (by omega)).mono ?_
  rintro e w' ⟨rfl, hd⟩
  refine ⟨rfl, ?_⟩
  unfold cm.text
  rw [← List.append_assoc]
  exact WrL.post q1 q2 q3 hd
/-- The bytes of a key. -/
def CEnt.key (e : CEnt) : List Nat := cm.text ⟨#[111]⟩ ++ cm.text e.grp ++ cm.text e.top ++ num.put e.part
set_option maxHeartbeats 4000000 in
theorem cm.key_any (e : CEnt) (w : World) (hg : e.grp.size ≤ 100) (ht : e.top.size ≤ 100) (hn1 : -9223372036854775808 ≤ e.part) (hn2 : e.part ≤ 9223372036854775807) : Calls Try.prog 45 #[.agg e.cells] w fun en w' => (∃ v, en = .returned v ∧ w'.ownsRow w.heap.size 5 1 v e.key.length (u8s e.key)) ∧ Below w.heap.size w w' := by
  obtain ⟨g, t, n, o⟩ := e
  unfold CEnt.cells
  obtain ⟨x0, hx0⟩ : ∃ x, x = cm.text ⟨#[111]⟩ := ⟨_, rfl⟩
  obtain ⟨x1, hx1⟩ : ∃ x, x = cm.text g := ⟨_, rfl⟩
  obtain ⟨x2, hx2⟩ : ∃ x, x = cm.text t := ⟨_, rfl⟩
  obtain ⟨x3, hx3⟩ : ∃ x, x = num.put n := ⟨_, rfl⟩
  obtain ⟨K, hK⟩ : ∃ K, K = CEnt.key ⟨g, t, n, o⟩ := ⟨_, rfl⟩
  rw [← hK]
  have hK' : K = [] ++ x0 ++ x1 ++ x2 ++ x3 := by rw [hK, hx0, hx1, hx2, hx3]; rfl
  clear hK
  simp only at hg ht hn1 hn2
  have l0 : x0.length ≤ 200 := by rw [hx0]; exact Nat.le_trans (cm.text_len ⟨#[111]⟩).2 (by decide)
  have l1 : x1.length ≤ 200 := by rw [hx1]; have := (cm.text_len g).2; omega
  have l2 : x2.length ≤ 200 := by rw [hx2]; have := (cm.text_len t).2; omega
  have l3 : x3.length ≤ 200 := by rw [hx3]; have := (num.put_bd n).2; omega
  have c0 : ∀ wB p wx L, WrL wB p p L wx → L.length ≤ 100000 → Calls Try.prog 48 #[.pointer (some ⟨p, 0, none⟩), .string ⟨#[111]⟩] wx fun e w' => e = .returned (.pointer (some ⟨p, 0, none⟩)) ∧ WrL wB p p (L ++ x0) w' := fun wB p wx L h hl => by
    rw [hx0]
    exact cm.wr_text h ⟨#[111]⟩ (Nat.le_trans (Nat.add_le_add hl (show (⟨#[111]⟩ : ByteArray).size ≤ 1 by decide)) (by omega))
  have c1 : ∀ wB p wx L, WrL wB p p L wx → L.length ≤ 100000 → Calls Try.prog 48 #[.pointer (some ⟨p, 0, none⟩), .string g] wx fun e w' => e = .returned (.pointer (some ⟨p, 0, none⟩)) ∧ WrL wB p p (L ++ x1) w' := fun wB p wx L h hl => by
    rw [hx1]
    exact cm.wr_text h g (by omega)
  have c2 : ∀ wB p wx L, WrL wB p p L wx → L.length ≤ 100000 → Calls Try.prog 48 #[.pointer (some ⟨p, 0, none⟩), .string t] wx fun e w' => e = .returned (.pointer (some ⟨p, 0, none⟩)) ∧ WrL wB p p (L ++ x2) w' := fun wB p wx L h hl => by
    rw [hx2]
    exact cm.wr_text h t (by omega)
  have c3 : ∀ wB p wx L, WrL wB p p L wx → L.length ≤ 100000 → Calls Try.prog 65 #[.pointer (some ⟨p, 0, none⟩), .int .i64 n] wx fun e w' => e = .returned (.pointer (some ⟨p, 0, none⟩)) ∧ WrL wB p p (L ++ x3) w' := fun wB p wx L h hl => by
    rw [hx3]
    exact h.num (by omega) n (by omega) (by omega)
  have HC := Lib.hid (And.intro c0 (And.intro c1 (And.intro c2 c3))); clear c0 c1 c2 c3 hx0 hx1 hx2 hx3 hg ht hn1 hn2
  have HLEN := Lib.hid (And.intro l0 (And.intro l1 (And.intro l2 (And.intro l3 hK')))); clear l0 l1 l2 l3 hK'
  obtain ⟨bx, hbx⟩ : ∃ b, b = w.heap.size := ⟨_, rfl⟩
  obtain ⟨w3, hw3⟩ : ∃ w1, w1 = w.alloc (.cells #[.string g, .string t, .int .i64 n, .int .i64 o] 42) := ⟨_, rfl⟩
  have hk3 : Blk w3 bx 42 #[.string g, .string t, .int .i64 n, .int .i64 o] := by rw [hw3, hbx]; exact Blk.new _ _ _
  have hb3 : Below w.heap.size w w3 := by rw [hw3]; exact (Below.refl _ _).alloc (Nat.le_refl _) _
  have HB3 := Lib.hid (And.intro hk3 (And.intro hb3 hbx)); clear hk3 hb3
  go_enter Try.func45, Try.ntmps45
  go_upto_region 1 with fail
  rw [← hw3, ← hbx]
  clear hw3 hbx
  go_upto_region 2 with fail
  obtain ⟨p, hp⟩ : ∃ p, p = w3.heap.size := ⟨_, rfl⟩
  obtain ⟨wB, hwB⟩ : ∃ wB, wB = w3.alloc (.cells #[.slice none 0 0, .bool false] 96) := ⟨_, rfl⟩
  rw [← hwB, ← hp]
  have hwr : WrL wB p p [] wB := by rw [hwB, hp]; exact WrL.start _ rfl
  have hc3B : Chg w3 wB (fun _ => False) := by rw [hwB]; exact Chg.alloc _ _ _
  have hkB := hc3B.blk HB3.out.1 fun q => q
  have hbxp : bx < p := by rw [hp]; exact HB3.out.1.lt
  have hbB : Below w.heap.size w wB := HB3.out.2.1.trans (hc3B.below HB3.out.2.1.size fun _ q => q.elim)
  have hwp : w.heap.size ≤ p := by rw [hp]; exact HB3.out.2.1.size
  have hW0 : WrL wB p p [] wB.drew := hwr.keep (bdrew (Below.refl _ _) 1)
  have HW := Lib.hid (And.intro hkB (And.intro hbxp (And.intro hbB hwp))); clear hkB hbxp hbB hwp hc3B hwB hp hwr
  have H0 := Lib.hid hW0; clear hW0
  have z0 : ∀ x : Later wB (fun k => p ≤ k), x.1.cell? ⟨bx, 0, none⟩ = some (.string g) := fun x => (x.2.blk HW.out.1 (Nat.not_le.2 HW.out.2.1)).cell 0 rfl
  have z1 : ∀ x : Later wB (fun k => p ≤ k), x.1.cell? ⟨bx, 1, none⟩ = some (.string t) := fun x => (x.2.blk HW.out.1 (Nat.not_le.2 HW.out.2.1)).cell 1 rfl
  have z2 : ∀ x : Later wB (fun k => p ≤ k), x.1.cell? ⟨bx, 2, none⟩ = some (.int .i64 n) := fun x => (x.2.blk HW.out.1 (Nat.not_le.2 HW.out.2.1)).cell 2 rfl
  have hS0 : later wB (fun k => p ≤ k) wB.drew := later_of ((Chg.refl _ _).drew)
  refine wp_plan (S := fun w0 => ∃ x : Later wB (fun k => p ≤ k), w0 = x.1) (by kernel_rfl) hS0 ?_
  intro hS' K5 hK5
  have HS := Lib.hid hS'; clear hS' hS0
  refine plan_group [false, true, true, false, true, true, false, true, true] [1, 2, 4, 5, 7, 8] 10 (by dsimp only [sel]) (by rfl) rfl (by kernel_rfl) (by kernel_rfl) HS.out ?_
  (repeat go_big_quiet_step (fail)); refine wpQuiet_nil ?_
  clear z0 z1 z2
  refine plan_one [true] 0 9 (by dsimp only [sel]) (by rfl) rfl (by kernel_rfl) ?_; intro K0 hK0
  go_wp2_with (go_at_call 48; refine (HC.out.1 wB p _ _ H0.out (by simp only [List.length_nil]; omega)).mono ?_; rintro e v0 ⟨rfl, h1⟩; have H1w := Lib.hid h1; clear h1)
  refine ⟨by first | exact later_of H1w.out.2.1 | exact fun _ => later_of H1w.out.2.1, ?_⟩
  refine plan_one [false, false, false, true] 3 8 (by dsimp only [sel]) (by rfl) rfl (by kernel_rfl) ?_; intro K1 hK1
  go_wp2_with (go_at_call 48; refine (HC.out.2.1 wB p _ _ H1w.out (by have := HLEN.out; simp only [List.length_append, List.length_nil]; omega)).mono ?_; rintro e v1 ⟨rfl, h1⟩; have H2w := Lib.hid h1; clear h1)
  refine ⟨by first | exact later_of H2w.out.2.1 | exact fun _ => later_of H2w.out.2.1, ?_⟩
  refine plan_one [false, false, false, false, false, false, true] 6 7 (by dsimp only [sel]) (by rfl) rfl (by kernel_rfl) ?_; intro K2 hK2
  go_wp2_with (go_at_call 48; refine (HC.out.2.2.1 wB p _ _ H2w.out (by have := HLEN.out; simp only [List.length_append, List.length_nil]; omega)).mono ?_; rintro e v2 ⟨rfl, h1⟩; have H3w := Lib.hid h1; clear h1)
  refine ⟨by first | exact later_of H3w.out.2.1 | exact fun _ => later_of H3w.out.2.1, ?_⟩
  refine plan_one [false, false, false, false, false, false, false, false, false, true] 9 6 (by dsimp only [sel]) (by rfl) rfl (by kernel_rfl) ?_; intro K3 hK3
  go_wp2_with (go_at_call 65; refine (HC.out.2.2.2 wB p _ _ H3w.out (by have := HLEN.out; simp only [List.length_append, List.length_nil]; omega)).mono ?_; rintro e v3 ⟨rfl, h1⟩; have H4w := Lib.hid h1; clear h1)
  refine ⟨by first | exact later_of H4w.out.2.1 | exact fun _ => later_of H4w.out.2.1, ?_⟩
  have hdone := WrL.done H4w.out (by have := HLEN.out; simp only [List.length_append, List.length_nil]; omega)
  rw [← HLEN.out.2.2.2.2] at hdone
  have HD := Lib.hid hdone; clear hdone
  refine plan_one [false, false, false, false, false, false, false, false, false, false, true] 10 5 (by dsimp only [sel]) (by rfl) rfl (by kernel_rfl) ?_; intro K4 hK4
  go_wp2_with (go_at_call 49; refine HD.out.mono ?_; rintro e v4 ⟨⟨uu, rfl, h1⟩, h2⟩; have H5 := Lib.hid (And.intro h1 h2); clear h1 h2)
  have hl5 : later wB (fun k => p ≤ k) v4 := later_of (H4w.out.2.1.trans (chg_of (P := fun _ => False) H5.out.2) fun _ _ q => q.elim)
  refine ⟨by first | exact hl5 | exact fun _ => hl5, ?_⟩
  refine plan_group [false, false, false, false, false, false, false, false, false, false, false, true, true, true, true, true] [11, 12, 13, 14, 15] 0 (by dsimp only [sel]) (by rfl) rfl (by kernel_rfl) (by kernel_rfl) hl5 ?_
  clear hl5
  (repeat go_big_quiet_step (fail)); refine wpQuiet_nil ?_
  refine wp_plan_end (by kernel_rfl) ?_
  refine hK5 _ _ ?_
  clear HS
  go_wp2
  go_ret
  have hfin : Below w.heap.size w v4 := by
    have a1 : Chg w v3 (fun k => p ≤ k) := (chg_of (P := fun k => p ≤ k) HW.out.2.2.1).trans H4w.out.2.1 fun _ _ q => q
    exact (a1.below (Nat.le_refl _) fun k q => Nat.le_trans HW.out.2.2.2 q).trans (H5.out.2.mono (Nat.le_trans (by exact HW.out.2.2.1.size) H4w.out.2.1.size))
  exact ⟨⟨uu, rfl, ownsRow_base H5.out.1 (Nat.le_trans HW.out.2.2.1.size H4w.out.2.1.size)⟩, hfin⟩
end
section
open Go.RowKit
set_option maxRecDepth 20000
/-- A record, handed over. -/
def cm.RecV (w : World) (v : Value) (r : Rec) : Prop := ∃ k u, v = .agg #[.int .i64 r.off, .int .i64 r.time, .bool r.hasKey, k, .bool r.hasVal, u] ∧ BytesV w k r.key ∧ BytesV w u r.val
theorem cm.RecV.below {w w' : World} {v : Value} {r : Rec} {B : Nat} (h : cm.RecV w v r) (hb : Below B w w') (hB : w.heap.size ≤ B) : cm.RecV w' v r := by
  obtain ⟨k, u, h1, h2, h3⟩ := h
  exact ⟨k, u, h1, h2.below hb hB, h3.below hb hB⟩
/-- Where it lies: nowhere, or in a block since B. -/
def cm.Loc (B : Nat) (w : World) (v : Value) : Prop := ∀ g, v.ownBlock = some g → B ≤ g ∧ g < w.heap.size
/-- A record whose bytes were laid since B. -/
def cm.New (B : Nat) (w : World) (v : Value) : Prop := ∃ a b c k d u, v = .agg #[a, b, c, k, d, u] ∧ cm.Loc B w k ∧ cm.Loc B w u
theorem cm.Loc.up {B B' : Nat} {w w' : World} {v : Value} (h : cm.Loc B w v) (hb : B' ≤ B) (hw : w.heap.size ≤ w'.heap.size) : cm.Loc B' w' v := fun g hg => ⟨Nat.le_trans hb (h g hg).1, Nat.lt_of_lt_of_le (h g hg).2 hw⟩
theorem cm.Loc.any {B n c m d : Nat} {w : World} {A : Option Addr} (h : cm.Loc B w (.slice A n c)) : cm.Loc B w (.slice A m d) := fun g hg => h g (by cases A <;> exact hg)
theorem cm.New.locs {B : Nat} {w : World} {a b c k d u : Value} (h : cm.New B w (.agg #[a, b, c, k, d, u])) : cm.Loc B w k ∧ cm.Loc B w u := by
  obtain ⟨a', b', c', k', d', u', e, h1, h2⟩ := h
  injection e with e
  have e := congrArg Array.toList e
  simp only [List.cons.injEq, and_true] at e
  obtain ⟨-, -, -, rfl, -, rfl⟩ := e
  exact ⟨h1, h2⟩
theorem cm.Loc.nil (B : Nat) (w : World) : cm.Loc B w (.slice none 0 0) := fun g hg => by simp [Value.ownBlock] at hg
theorem cm.New.zero (B : Nat) (w : World) : cm.New B w (.agg #[.int .i64 0, .int .i64 0, .bool false, .slice none 0 0, .bool false, .slice none 0 0]) := ⟨_, _, _, _, _, _, rfl, cm.Loc.nil B w, cm.Loc.nil B w⟩
theorem cm.nil_bytes (w : World) : BytesV w (.slice none 0 0) [] := ⟨none, 0, rfl, At.none0 rfl, Nat.le_refl _, Nat.zero_le _, fun _ h => by cases h⟩
theorem cm.own_bv {w : World} {base : Nat} {v : Value} {L : List Nat} (h : w.ownsRow base 5 1 v L.length (u8s L)) (hl : ∀ x ∈ L, x < 256) : BytesV w v L := by
  obtain ⟨A, c, rfl, hc, -, hat⟩ := own_bytes h
  exact ⟨A, c, rfl, hat, hc, own_cap h, hl⟩
def cm.zero : Rec := ⟨0, 0, false, [], false, []⟩
theorem cm.zero_v (w : World) : cm.RecV w (.agg #[.int .i64 0, .int .i64 0, .bool false, .slice none 0 0, .bool false, .slice none 0 0]) cm.zero := ⟨_, _, rfl, cm.nil_bytes w, cm.nil_bytes w⟩
/-- A time that may be. -/
def cm.now (n : Int) : Bool := decide (0 ≤ n) && decide (n ≤ 1125899906842624)
def CEnt.told (e : CEnt) (now : Int) : Rec := ⟨0, now, true, e.key, true, num.put e.off⟩
def cm.gkey (g : ByteArray) : List Nat := cm.text ⟨#[103]⟩ ++ cm.text g
def cm.grec (g : ByteArray) (n now : Int) : Rec := ⟨0, now, true, cm.gkey g, true, num.put n⟩
theorem cm.now_lo {n : Int} (h : n < 0) : cm.now n = false := by unfold cm.now; rw [decide_eq_false (by omega)]; rfl
theorem cm.now_hi {n : Int} (h : 1125899906842624 < n) : cm.now n = false := by unfold cm.now; rw [decide_eq_false (p := n ≤ 1125899906842624) (by omega), Bool.and_false]
theorem cm.now_ok {n : Int} (h0 : ¬ n < 0) (h : ¬ 1125899906842624 < n) : cm.now n = true := by unfold cm.now; rw [decide_eq_true (p := 0 ≤ n) (by omega), decide_eq_true (p := n ≤ 1125899906842624) (by omega)]; rfl
theorem cm.written_any (kv : Value) (K : List Nat) (n now : Int) (w : World) (hk : BytesV w kv K) (h1 : -9223372036854775808 ≤ n) (h2 : n ≤ 9223372036854775807) : Calls Try.prog 44 #[kv, .int .i64 n, .int .i64 now] w fun en w' => (∃ v, en = .returned (.tuple #[v, .int .i64 (if cm.now now = true then 0 else 1)]) ∧ cm.RecV w' v (if cm.now now = true then ⟨0, now, true, K, true, num.put n⟩ else cm.zero) ∧ ∀ B, B ≤ w.heap.size → cm.Loc B w kv → cm.New B w' v) ∧ Below w.heap.size w w' := by
  obtain ⟨A, c, rfl, hk⟩ := hk
  obtain ⟨R, hR⟩ : ∃ R : Int, R = if cm.now now = true then 0 else 1 := ⟨_, rfl⟩
  obtain ⟨X, hX⟩ : ∃ X : Rec, X = if cm.now now = true then ⟨0, now, true, K, true, num.put n⟩ else cm.zero := ⟨_, rfl⟩
  rw [← hR, ← hX]
  have hno : cm.now now = false → R = 1 ∧ X = cm.zero := fun h => by rw [h] at hR hX; exact ⟨hR, hX⟩
  have hyes : cm.now now = true → R = 0 ∧ X = ⟨0, now, true, K, true, num.put n⟩ := fun h => by rw [h] at hR hX; exact ⟨hR, hX⟩
  clear hR hX
  have HRX := Lib.hid (And.intro hno hyes); clear hno hyes
  obtain ⟨m, hm⟩ : ∃ m, m = K.length := ⟨_, rfl⟩
  rw [← hm]
  obtain ⟨b0, hb0⟩ : ∃ b, b = w.heap.size := ⟨_, rfl⟩
  obtain ⟨w1, hw1⟩ : ∃ w1, w1 = w.alloc (.cells #[.int .i64 0, .int .i64 0, .bool false, .slice none 0 0, .bool false, .slice none 0 0] 37) := ⟨_, rfl⟩
  have hk1 : Blk w1 b0 37 #[.int .i64 0, .int .i64 0, .bool false, .slice none 0 0, .bool false, .slice none 0 0] := by rw [hw1, hb0]; exact Blk.new _ _ _
  have hbl1 : Below w.heap.size w w1 := by rw [hw1]; exact (Below.refl _ _).alloc (Nat.le_refl _) _
  have H := Lib.hid (And.intro hk (And.intro hm (And.intro hb0 (And.intro hk1 hbl1)))); clear hk hm hk1 hbl1
  go_enter Try.func44, Try.ntmps44
  go_upto_region 1 with fail
  rw [← hw1, ← hb0]
  clear hw1 hb0
  have hcase : (now < 0 ∨ (¬ now < 0 ∧ 1125899906842624 < now)) ∨ (¬ now < 0 ∧ ¬ 1125899906842624 < now) := by omega
  rcases hcase with hbad | ⟨d1, d2⟩
  · have hno : cm.now now = false := hbad.elim cm.now_lo fun h => cm.now_hi h.2
    have HX := Lib.hid (HRX.out.1 hno); clear hno
    rcases hbad with d1 | ⟨d1, d2⟩
    · have e1 : decide (now < 0) = true := decide_eq_true d1
      go_wp2_with (refine wpList_store_row rfl 37 (.tmp 6) (.tmp 17) rfl b0 #[.int .i64 0, .int .i64 0, .bool false, .slice none 0 0, .bool false, .slice none 0 0] rfl rfl 37 _ H.out.2.2.2.1 cm.info_rec rfl (by simp [Value.oneCell']) ?_)
      have hz2 := H.out.2.2.2.1.row #[.int .i64 0, .int .i64 0, .bool false, .slice none 0 0, .bool false, .slice none 0 0]
      have hb2 := H.out.2.2.2.2.trans ((Chg.setRow w1 b0 #[.int .i64 0, .int .i64 0, .bool false, .slice none 0 0, .bool false, .slice none 0 0]).below H.out.2.2.2.2.size fun k hk => by have hk : k = b0 := hk; have := H.out.2.2.1; omega)
      refine bodyPost_ret (res_cell2 rfl _ _ b0 _ _ rfl hz2 Try.underlying37 rfl cm.info_rec) rfl ?_
      refine ⟨⟨_, by rw [HX.out.1]; rfl, ?_, fun B _ _ => cm.New.zero B _⟩, hb2⟩
      rw [HX.out.2]
      exact cm.zero_v _
    · have e1 : decide (now < 0) = false := decide_eq_false d1
      have e2 : decide (1125899906842624 < now) = true := decide_eq_true d2
      go_wp2_with (refine wpList_store_row rfl 37 (.tmp 6) (.tmp 17) rfl b0 #[.int .i64 0, .int .i64 0, .bool false, .slice none 0 0, .bool false, .slice none 0 0] rfl rfl 37 _ H.out.2.2.2.1 cm.info_rec rfl (by simp [Value.oneCell']) ?_)
      have hz2 := H.out.2.2.2.1.row #[.int .i64 0, .int .i64 0, .bool false, .slice none 0 0, .bool false, .slice none 0 0]
      have hb2 := H.out.2.2.2.2.trans ((Chg.setRow w1 b0 #[.int .i64 0, .int .i64 0, .bool false, .slice none 0 0, .bool false, .slice none 0 0]).below H.out.2.2.2.2.size fun k hk => by have hk : k = b0 := hk; have := H.out.2.2.1; omega)
      refine bodyPost_ret (res_cell2 rfl _ _ b0 _ _ rfl hz2 Try.underlying37 rfl cm.info_rec) rfl ?_
      refine ⟨⟨_, by rw [HX.out.1]; rfl, ?_, fun B _ _ => cm.New.zero B _⟩, hb2⟩
      rw [HX.out.2]
      exact cm.zero_v _
  · have HX := Lib.hid (HRX.out.2 (cm.now_ok d1 d2))
    have e1 : decide (now < 0) = false := decide_eq_false d1
    have e2 : decide (1125899906842624 < now) = false := decide_eq_false d2
    go_upto_region 4 with fail
    clear e1 e2
    obtain ⟨p, hp⟩ : ∃ p, p = w1.heap.size := ⟨_, rfl⟩
    obtain ⟨wB, hwB⟩ : ∃ wB, wB = w1.alloc (.cells #[.slice none 0 0, .bool false] 96) := ⟨_, rfl⟩
    rw [← hwB, ← hp]
    have hwr : WrL wB p p [] wB := by rw [hwB, hp]; exact WrL.start _ rfl
    have hc3B : Chg w1 wB (fun _ => False) := by rw [hwB]; exact Chg.alloc _ _ _
    have hkB := hc3B.blk H.out.2.2.2.1 fun q => q
    have hbxp : b0 < p := by rw [hp]; exact H.out.2.2.2.1.lt
    have hbB : Below w.heap.size w wB := H.out.2.2.2.2.trans (hc3B.below H.out.2.2.2.2.size fun _ q => q.elim)
    have hwp : w.heap.size ≤ p := by rw [hp]; exact H.out.2.2.2.2.size
    have HW := Lib.hid (And.intro hkB (And.intro hbxp (And.intro hbB hwp))); clear hkB hbxp hbB hwp hc3B hwB hp
    have HN := Lib.hid (hwr.num (by simp) n h1 h2); clear hwr
    go_wp2_with fail
    refine HN.out.mono ?_
    rintro en w2 ⟨rfl, hn2⟩
    have HD := Lib.hid (And.intro (hn2.done (by have := (num.put_bd n).2; simp; omega)) hn2.2.1); clear hn2
    go_wp2_with fail
    refine HD.out.1.mono ?_
    rintro en w3 ⟨⟨u, rfl, hown⟩, hb3⟩
    rw [List.nil_append] at hown
    have hu : BytesV w3 u (num.put n) := cm.own_bv hown (num.put_byte n h1 h2)
    have hc3 : Chg wB w3 (fun k => p ≤ k) := HD.out.2.trans (chg_of (P := fun _ => False) hb3) fun _ _ q => q.elim
    have hk3 := hc3.blk HW.out.1 (Nat.not_le.2 HW.out.2.1)
    have hb3' : Below w.heap.size w w3 := HW.out.2.2.1.trans (hc3.below HW.out.2.2.1.size fun k q => Nat.le_trans HW.out.2.2.2 q)
    obtain ⟨Au, cu, rfl, hu⟩ := hu
    have hlo : ∀ b off, Au = some ⟨b, off, none⟩ → b0 < b := fun b off e => by have := (hown.lt b (by rw [e]; rfl)).1; have := HD.out.2.size; have := HW.out.1.lt; omega
    have hloc : ∀ (n c g : Nat), (Value.slice Au n c).ownBlock = some g → b0 < g ∧ g < w3.heap.size := fun n c g hg => by
      have h1 := hown.lt g (by cases Au <;> exact hg)
      have := HD.out.2.size
      have := HW.out.1.lt
      omega
    have HLOC := Lib.hid hloc; clear hloc
    obtain ⟨mu, hmu⟩ : ∃ m, m = (num.put n).length := ⟨_, rfl⟩
    rw [← hmu]
    have H3 := Lib.hid (And.intro hu (And.intro hmu (And.intro hk3 hb3'))); have HLO := Lib.hid hlo; clear hu hmu hk3 hb3' hc3 hb3 hown hlo
    clear h1 h2 d1 d2
    go_wp2_with (refine wpList_store_row rfl 37 (.tmp 6) (.tmp 27) rfl b0 #[.int .i64 0, .int .i64 now, .bool true, .slice A m c, .bool true, .slice Au mu cu] rfl rfl 37 _ H3.out.2.2.1 cm.info_rec rfl (by simp [Value.oneCell']) ?_)
    have hz2 := H3.out.2.2.1.row #[.int .i64 0, .int .i64 now, .bool true, .slice A m c, .bool true, .slice Au mu cu]
    have hc4 := Chg.setRow w3 b0 #[.int .i64 0, .int .i64 now, .bool true, .slice A m c, .bool true, .slice Au mu cu]
    have hb2 := H3.out.2.2.2.trans (hc4.below H3.out.2.2.2.size fun k hk => by have hk : k = b0 := hk; have := H.out.2.2.1; omega)
    have hu2 := hc4.at' H3.out.1.1 (fun _ b off e q => by have q : b = b0 := q; have := HLO.out b off e; omega)
    refine bodyPost_ret (res_cell2 rfl _ _ b0 _ _ rfl hz2 Try.underlying37 rfl cm.info_rec) rfl ?_
    refine ⟨⟨_, by rw [HX.out.1]; rfl, ?_, fun B hB hL => ⟨_, _, _, _, _, _, rfl, cm.Loc.up hL (Nat.le_refl _) hb2.size, fun g hg => ?_⟩⟩, hb2⟩
    rotate_left
    · have h1 := HLOC.out _ _ g hg
      have h2 := hc4.size
      have h3 := H.out.2.2.1
      omega
    rw [HX.out.2]
    refine ⟨_, _, rfl, ?_, ?_⟩
    · exact ⟨A, c, by show Value.slice A m c = Value.slice A K.length c; rw [H.out.2.1], H.out.1.1.below hb2 (Nat.le_refl _), H.out.1.2⟩
    · exact ⟨Au, cu, by show Value.slice Au mu cu = Value.slice Au (num.put n).length cu; rw [H3.out.2.1], hu2, H3.out.1.2⟩
section
variable {P : Program} {ops : Array Oper} {S : World → Prop}
theorem cm.quiet_of {Q : Act → Prop} {o : Oper} {rest : List Oper} {a : Act} (hg : o.guard = none) (v : Value) (h : ∀ w, S w → (execOp a.eval o).run P w = .ok (.value v) w) (hk : wpQuiet P ops S Q rest (a.put o.dst v)) : wpQuiet P ops S Q (o :: rest) a := by
  unfold wpQuiet
  rw [if_pos (by simp [Region.wanted, hg])]
  refine ⟨v, fun w hw => ?_, hk⟩
  unfold Oper.quietAt
  rw [h w hw]
  exact ⟨rfl, rfl⟩
/-- A whole struct is loaded, in a quiet region. -/
theorem cm.quiet_row {Q : Act → Prop} {o : Oper} {rest : List Oper} {a : Act} (hgd : o.guard = none) (ty : TypeId) (x : Operand) (ho : o.op = .load ty x) (g : Nat) (hx : a.eval x = .pointer (some ⟨g, 0, none⟩)) (T : TypeId) (cs : Array Value) (d : TypeDesc)
    (hg : ∀ w, S w → Blk w g T cs) (hu : P.underlying ty = some d) (hd : (match d with | .struct _ | .array _ _ => true | _ => false) = true) (hi : (P.info? ty).map (·.size) = some cs.size) (hk : wpQuiet P ops S Q rest (a.put o.dst (.agg cs))) : wpQuiet P ops S Q (o :: rest) a := by
  refine cm.quiet_of hgd (.agg cs) (fun w hw => ?_) hk
  unfold execOp
  simp only [ho, hx, Instr.loadAt, Instr.sureAddr, Sem.run_bind, Sem.run_pure, Result.andThen_ok, run_loadVar_row w g T ty cs (0, 0) d (hg w hw) hu hd hi]
end
theorem cm.text_byte (s : ByteArray) (h : s.size ≤ 100) : ∀ x ∈ cm.text s, x < 256 := fun x hx => by
  unfold cm.text at hx
  rcases List.mem_append.1 hx with h1 | h1
  · exact num.put_byte _ (by omega) (by omega) x h1
  · exact strNats_lt s x h1
theorem CEnt.key_byte {e : CEnt} (hg : e.grp.size ≤ 100) (ht : e.top.size ≤ 100) (h1 : -9223372036854775808 ≤ e.part) (h2 : e.part ≤ 9223372036854775807) : ∀ x ∈ e.key, x < 256 := fun x hx => by
  unfold CEnt.key at hx
  rcases List.mem_append.1 hx with h3 | h3
  · rcases List.mem_append.1 h3 with h3 | h3
    · rcases List.mem_append.1 h3 with h3 | h3
      · exact cm.text_byte _ (by decide) x h3
      · exact cm.text_byte _ hg x h3
    · exact cm.text_byte _ ht x h3
  · exact num.put_byte _ h1 h2 x h3
theorem CEnt.ok_place {e : CEnt} (h : e.ok = true) : e.grp.size ≤ 20 ∧ e.top.size ≤ 20 ∧ 0 ≤ e.part ∧ e.part ≤ 999 ∧ 0 ≤ e.off ∧ e.off ≤ 4611686018427387904 := by
  unfold CEnt.ok cm.place cm.topic at h
  simp only [Bool.and_eq_true, decide_eq_true_eq] at h
  omega
def cm.recPost (w : World) (X : Rec) (c : Int) (en : Ending) (w' : World) : Prop := (∃ v, en = .returned (.tuple #[v, .int .i64 c]) ∧ cm.RecV w' v X) ∧ Below w.heap.size w w'
/-- What Record answers. -/
def cm.recPostN (w : World) (X : Rec) (c : Int) (en : Ending) (w' : World) : Prop := (∃ v, en = .returned (.tuple #[v, .int .i64 c]) ∧ cm.RecV w' v X ∧ cm.New w.heap.size w' v) ∧ Below w.heap.size w w'
def CEnt.may (e : CEnt) (now : Int) : Bool := e.ok && cm.now now
theorem cm.record_any (e : CEnt) (now : Int) (w : World) (h : e.fit) : Calls Try.prog 23 #[.agg e.cells, .int .i64 now] w (cm.recPostN w (if e.may now = true then e.told now else cm.zero) (if e.may now = true then 0 else 1)) := by
  have hck := fun wx => cm.check_any e wx h
  have hkey := fun (wx : World) (h0 : e.ok = true) => have h1 := CEnt.ok_place h0; cm.key_any e wx (by omega) (by omega) (by omega) (by omega)
  have hwr := fun (kv : Value) (wx : World) (h0 : e.ok = true) (hk : BytesV wx kv e.key) => have h1 := CEnt.ok_place h0; cm.written_any kv e.key e.off now wx hk (by omega) (by omega)
  have hbyte : e.ok = true → ∀ x ∈ e.key, x < 256 := fun h0 => have h1 := CEnt.ok_place h0; CEnt.key_byte (by omega) (by omega) (by omega) (by omega)
  obtain ⟨R, hR⟩ : ∃ R : Int, R = if e.may now = true then 0 else 1 := ⟨_, rfl⟩
  obtain ⟨X, hX⟩ : ∃ X : Rec, X = if e.may now = true then e.told now else cm.zero := ⟨_, rfl⟩
  rw [← hR, ← hX]
  have hno : e.ok = false → R = 1 ∧ X = cm.zero := fun h => by unfold CEnt.may at hR hX; rw [h] at hR hX; exact ⟨hR, hX⟩
  have hyes : e.ok = true → R = (if cm.now now = true then 0 else 1) ∧ X = (if cm.now now = true then ⟨0, now, true, e.key, true, num.put e.off⟩ else cm.zero) := fun h => by unfold CEnt.may at hR hX; rw [h, Bool.true_and] at hR hX; exact ⟨hR, hX⟩
  clear hR hX h
  obtain ⟨ok, hok⟩ : ∃ b, b = e.ok := ⟨_, rfl⟩
  rw [← hok] at hck hkey hwr hno hyes hbyte
  obtain ⟨C, hC⟩ : ∃ C : Int, C = if ok = true then 0 else 1 := ⟨_, rfl⟩
  rw [← hC] at hck
  clear hok
  obtain ⟨K, hK⟩ : ∃ K, K = e.key := ⟨_, rfl⟩
  rw [← hK] at hkey hwr hbyte hyes
  clear hK
  obtain ⟨g, t, p, o⟩ := e
  unfold CEnt.cells at hck hkey ⊢
  obtain ⟨b0, hb0⟩ : ∃ b, b = w.heap.size := ⟨_, rfl⟩
  obtain ⟨w1, hw1⟩ : ∃ w1, w1 = (w.alloc (.cells #[.string g, .string t, .int .i64 p, .int .i64 o] 42)).alloc (.cells #[.int .i64 0, .int .i64 0, .bool false, .slice none 0 0, .bool false, .slice none 0 0] 37) := ⟨_, rfl⟩
  have hk1 : Blk w1 b0 42 #[.string g, .string t, .int .i64 p, .int .i64 o] := by rw [hw1, hb0]; exact (Chg.alloc _ _ (fun _ => False)).blk (Blk.new _ _ _) fun q => q
  have hz1 : Blk w1 (b0 + 1) 37 #[.int .i64 0, .int .i64 0, .bool false, .slice none 0 0, .bool false, .slice none 0 0] := by rw [hw1, hb0]; exact heap_alloc2_new w _ _
  have hb1 : Below w.heap.size w w1 := by rw [hw1]; exact ((Below.refl _ _).alloc (Nat.le_refl _) _).alloc (by simp) _
  have H := Lib.hid (And.intro hck (And.intro hkey (And.intro hwr (And.intro hno (And.intro hyes (And.intro hbyte (And.intro hk1 (And.intro hz1 (And.intro hb1 hb0))))))))); clear hck hkey hwr hno hyes hbyte hk1 hz1 hb1
  go_enter Try.func23, Try.ntmps23
  go_upto_region 1 with fail
  rw [← hw1, ← hb0]
  clear hw1 hb0
  go_wp2_with (first
    | (show Go.wpList _ _ _ (⟨_, .load _ (.tmp 2), _, _, _, _⟩ :: _) _ _; refine wpList_load_row rfl 42 (.tmp 2) rfl b0 rfl 42 #[.string g, .string t, .int .i64 p, .int .i64 o] (0, 0) _ H.out.2.2.2.2.2.2.1 Try.underlying42 rfl cm.info_entry ?_)
    | fail)
  refine (H.out.1 w1).mono ?_
  rintro en w2 ⟨rfl, h2⟩
  have hc2 : Chg w1 w2 (fun _ => False) := chg_of h2
  have hk2 := hc2.blk H.out.2.2.2.2.2.2.1 fun q => q
  have hz2 := hc2.blk H.out.2.2.2.2.2.2.2.1 fun q => q
  have hb2 := H.out.2.2.2.2.2.2.2.2.1.trans (h2.mono H.out.2.2.2.2.2.2.2.2.1.size)
  have H2 := Lib.hid (And.intro hk2 (And.intro hz2 hb2)); clear hk2 hz2 hb2 hc2 h2
  cases ok with
  | false =>
    obtain rfl : C = 1 := by rw [hC]; rfl
    clear hC
    have HX := Lib.hid (H.out.2.2.2.1 rfl)
    go_wp2_with (refine wpList_store_row rfl 37 (.tmp 4) (.tmp 9) rfl (b0 + 1) #[.int .i64 0, .int .i64 0, .bool false, .slice none 0 0, .bool false, .slice none 0 0] rfl rfl 37 _ H2.out.2.1 cm.info_rec rfl (by simp [Value.oneCell']) ?_)
    have hz3 := H2.out.2.1.row #[.int .i64 0, .int .i64 0, .bool false, .slice none 0 0, .bool false, .slice none 0 0]
    have hb3 := H2.out.2.2.trans ((Chg.setRow w2 (b0 + 1) #[.int .i64 0, .int .i64 0, .bool false, .slice none 0 0, .bool false, .slice none 0 0]).below H2.out.2.2.size fun k hk => by have hk : k = b0 + 1 := hk; have := H.out.2.2.2.2.2.2.2.2.2; omega)
    refine bodyPost_ret (res_cell2 rfl _ _ (b0 + 1) _ _ rfl hz3 Try.underlying37 rfl cm.info_rec) rfl ?_
    refine ⟨⟨_, by rw [HX.out.1]; rfl, ?_, cm.New.zero _ _⟩, hb3⟩
    rw [HX.out.2]
    exact cm.zero_v _
  | true =>
    obtain rfl : C = 0 := by rw [hC]; rfl
    clear hC
    have HX := Lib.hid (H.out.2.2.2.2.1 rfl)
    have HKEY := Lib.hid fun wx => H.out.2.1 wx rfl
    have HWR := Lib.hid fun kv wx hk => by have h := H.out.2.2.1 kv wx rfl hk; rw [← HX.out.1, ← HX.out.2] at h; exact h
    have HBY := Lib.hid (H.out.2.2.2.2.2.1 rfl)
    have HBB := Lib.hid H.out.2.2.2.2.2.2.2.2.2
    clear H
    go_upto_region 3 with fail
    have hkd : ∀ x : Later w2 (fun k => b0 < k), Blk x.1 b0 42 #[.string g, .string t, .int .i64 p, .int .i64 o] := fun x => x.2.blk H2.out.1 (Nat.lt_irrefl _)
    have z3 : ∀ x : Later w2 (fun k => b0 < k), x.1.cell? ⟨b0, 3, none⟩ = some (.int .i64 o) := fun x => (hkd x).cell 3 rfl
    have HKD := Lib.hid hkd; clear hkd
    have hS0 : later w2 (fun k => b0 < k) w2.drew := later_of ((Chg.refl _ _).drew)
    refine wp_plan (S := fun w0 => ∃ x : Later w2 (fun k => b0 < k), w0 = x.1) (by kernel_rfl) hS0 ?_
    intro hS' K5 hK5
    have HS := Lib.hid hS'; clear hS' hS0
    refine plan_group [true, false, true, true, true] [0, 2, 3, 4] 6 (by dsimp only [sel]) (by rfl) rfl (by kernel_rfl) (by kernel_rfl) HS.out ?_
    refine cm.quiet_row rfl 42 (.tmp 2) rfl b0 rfl 42 #[.string g, .string t, .int .i64 p, .int .i64 o] _ (fun w0 ⟨x, hx⟩ => hx ▸ HKD.out x) Try.underlying42 rfl cm.info_entry ?_
    go_simp
    (repeat go_big_quiet_step (fail)); refine wpQuiet_nil ?_
    clear z3
    refine plan_one [false, true] 1 5 (by dsimp only [sel]) (by rfl) rfl (by kernel_rfl) ?_; intro K0 hK0
    go_wp2_with fail
    refine (HKEY.out w2.drew).mono ?_
    rintro en w3 ⟨⟨kv, rfl, hown⟩, h3⟩
    have hkv : BytesV w3 kv K := cm.own_bv hown HBY.out
    have HLK := Lib.hid (show cm.Loc w.heap.size w3 kv from fun g hg => ⟨Nat.le_trans H2.out.2.2.size (hown.lt g hg).1, (hown.lt g hg).2⟩)
    have hc3 : Chg w2 w3 (fun _ => False) := (Chg.drew (Chg.refl _ _)).trans (chg_of h3) fun _ _ q => q
    have hl3 : later w2 (fun k => b0 < k) w3 := later_of (hc3.mono fun _ _ q => q.elim)
    go_wp2_with fail
    refine ⟨by first | exact hl3 | exact fun _ => hl3, ?_⟩
    have H3 := Lib.hid (And.intro hkv hc3); clear hkv hc3 h3 hown hl3
    refine plan_one [false, false, false, false, false, true] 5 4 (by dsimp only [sel]) (by rfl) rfl (by kernel_rfl) ?_; intro K1 hK1
    go_wp2_with fail
    refine (HWR.out kv w3 H3.out.1).mono ?_
    rintro en w4 ⟨⟨v, rfl, hv, hnew⟩, h4⟩
    have hnw := hnew w.heap.size (by have := Nat.le_trans H2.out.2.2.size H3.out.2.size; exact this) HLK.out
    clear hnew
    have hc4 : Chg w2 w4 (fun _ => False) := H3.out.2.trans (chg_of h4) fun _ _ q => q
    have hl4 : later w2 (fun k => b0 < k) w4 := later_of (hc4.mono fun _ _ q => q.elim)
    go_wp2_with fail
    refine ⟨by first | exact hl4 | exact fun _ => hl4, ?_⟩
    obtain ⟨k, u, rfl, hk, hu⟩ := hv
    obtain ⟨Ak, ck, rfl, hk⟩ := hk
    obtain ⟨Au, cu, rfl, hu⟩ := hu
    have HNW := Lib.hid hnw.locs; clear hnw
    obtain ⟨nk, hnk⟩ : ∃ n, n = X.key.length := ⟨_, rfl⟩
    obtain ⟨nu, hnu⟩ : ∃ n, n = X.val.length := ⟨_, rfl⟩
    obtain ⟨xo, hxo⟩ : ∃ n, n = X.off := ⟨_, rfl⟩
    obtain ⟨xt, hxt⟩ : ∃ n, n = X.time := ⟨_, rfl⟩
    obtain ⟨xk, hxk⟩ : ∃ n, n = X.hasKey := ⟨_, rfl⟩
    obtain ⟨xv, hxv⟩ : ∃ n, n = X.hasVal := ⟨_, rfl⟩
    rw [← hnk, ← hnu, ← hxo, ← hxt, ← hxk, ← hxv]
    have H4 := Lib.hid (And.intro hk (And.intro hu (And.intro hc4 (And.intro h4 (And.intro hnk (And.intro hnu (And.intro hxo (And.intro hxt (And.intro hxk hxv))))))))); clear hk hu hc4 h4 hl4 hnk hnu hxo hxt hxk hxv
    refine plan_group [false, false, false, false, false, false, true, true] [6, 7] 2 (by dsimp only [sel]) (by rfl) rfl (by kernel_rfl) (by kernel_rfl) (later_of (H4.out.2.2.1.mono fun _ _ q => q.elim)) ?_
    (repeat go_big_quiet_step (fail)); refine wpQuiet_nil ?_
    refine plan_one [false, false, false, false, false, false, false, false, true] 8 1 (by dsimp only [sel]) (by rfl) rfl (by kernel_rfl) ?_; intro K6 hK6
    have hz4 := H4.out.2.2.1.blk H2.out.2.1 fun q => q
    go_wp2_with (refine wpList_store_row rfl 37 (.tmp 4) (.tmp 16) rfl (b0 + 1) #[.int .i64 xo, .int .i64 xt, .bool xk, .slice Ak nk ck, .bool xv, .slice Au nu cu] rfl rfl 37 _ hz4 cm.info_rec rfl (by simp [Value.oneCell']) ?_)
    have hc5 := Chg.setRow w4 (b0 + 1) #[.int .i64 xo, .int .i64 xt, .bool xk, .slice Ak nk ck, .bool xv, .slice Au nu cu]
    have hz5 := hz4.row #[.int .i64 xo, .int .i64 xt, .bool xk, .slice Ak nk ck, .bool xv, .slice Au nu cu]
    have hno : ∀ (j : Nat) (u : Value) (L : List Nat), (#[.int .i64 0, .int .i64 0, .bool false, .slice none 0 0, .bool false, .slice none 0 0] : Array Value)[j]? = some u → u ≠ byteAt L 0 := fun j u L hj => by
      have hj6 : j < 6 := by
        have := (Array.getElem?_eq_some_iff.1 hj).1
        simpa using this
      unfold byteAt
      rcases (by omega : j = 0 ∨ j = 1 ∨ j = 2 ∨ j = 3 ∨ j = 4 ∨ j = 5) with rfl | rfl | rfl | rfl | rfl | rfl <;> (injection hj with hj; rw [← hj]; intro h; cases h)
    have hk5 := hc5.at' H4.out.1.1 fun hn b off e q => H4.out.1.1.not_blk hn hz4 (fun j u hj => hno j u _ hj) b off e q
    have hu5 := hc5.at' H4.out.2.1.1 fun hn b off e q => H4.out.2.1.1.not_blk hn hz4 (fun j u hj => hno j u _ hj) b off e q
    have hl5 : later w2 (fun k => b0 < k) (w4.setRow (b0 + 1) #[.int .i64 xo, .int .i64 xt, .bool xk, .slice Ak nk ck, .bool xv, .slice Au nu cu]) := later_of ((H4.out.2.2.1.mono (Q := fun k => b0 < k) fun _ _ q => q.elim).trans hc5 fun k _ q => by have q : k = b0 + 1 := q; show b0 < k; omega)
    have hb5 : Below w.heap.size w (w4.setRow (b0 + 1) #[.int .i64 xo, .int .i64 xt, .bool xk, .slice Ak nk ck, .bool xv, .slice Au nu cu]) := (H2.out.2.2.trans (H4.out.2.2.1.below H2.out.2.2.size fun _ q => q.elim)).trans (hc5.below (Nat.le_trans H2.out.2.2.size H4.out.2.2.1.size) fun k q => by have q : k = b0 + 1 := q; have := HBB.out; omega)
    have H5 := Lib.hid (And.intro hz5 (And.intro hk5 (And.intro hu5 hb5))); clear hz5 hk5 hu5 hb5 hno hz4 hc5
    refine ⟨by first | exact hl5 | exact fun _ => hl5, ?_⟩
    refine plan_group [false, false, false, false, false, false, false, false, false, true] [9] 0 (by dsimp only [sel]) (by rfl) rfl (by kernel_rfl) (by kernel_rfl) hl5 ?_
    clear hl5
    go_simp
    (repeat go_big_quiet_step (fail)); refine wpQuiet_nil ?_
    refine wp_plan_end (by kernel_rfl) ?_
    refine hK5 _ _ ?_
    clear HS
    go_wp2
    refine bodyPost_ret (res_cell2 rfl _ _ (b0 + 1) _ _ rfl H5.out.1 Try.underlying37 rfl cm.info_rec) rfl ?_
    refine ⟨⟨_, rfl, ⟨.slice Ak nk ck, .slice Au nu cu, ?_, ?_, ?_⟩, ⟨_, _, _, _, _, _, rfl, HNW.out.1.any.up (Nat.le_refl _) (by simp), HNW.out.2.any.up (Nat.le_refl _) (by simp)⟩⟩, H5.out.2.2.2⟩
    · rw [H4.out.2.2.2.2.2.2.1, H4.out.2.2.2.2.2.2.2.1, H4.out.2.2.2.2.2.2.2.2.1, H4.out.2.2.2.2.2.2.2.2.2]
    · exact ⟨Ak, ck, by rw [H4.out.2.2.2.2.1], H5.out.2.1, H4.out.1.2⟩
    · exact ⟨Au, cu, by rw [H4.out.2.2.2.2.2.1], H5.out.2.2.1, H4.out.2.1.2⟩
end
section
open Go.RowKit
set_option maxRecDepth 20000
def cm.gen (g : ByteArray) (n : Int) : Bool := cm.topic g && decide (0 ≤ n) && decide (n ≤ 1099511627776)
def cm.gmay (g : ByteArray) (n now : Int) : Bool := cm.gen g n && cm.now now
theorem cm.gen_iff (g : ByteArray) (n : Int) : (if cm.topic g = true ∧ 0 ≤ n ∧ n ≤ 1099511627776 then (0 : Int) else 1) = if cm.gen g n = true then 0 else 1 := by
  unfold cm.gen
  by_cases h : cm.topic g = true ∧ 0 ≤ n ∧ n ≤ 1099511627776
  · rw [if_pos h, if_pos (by simp [h])]
  · rw [if_neg h, if_neg (by simpa [and_assoc] using h)]
theorem cm.gen_facts {g : ByteArray} {n : Int} (h : cm.gen g n = true) : g.size ≤ 20 ∧ 0 ≤ n ∧ n ≤ 1099511627776 := by
  unfold cm.gen cm.topic at h
  simp only [Bool.and_eq_true, decide_eq_true_eq] at h
  omega
theorem cm.gkey_byte {g : ByteArray} (hg : g.size ≤ 100) : ∀ x ∈ cm.gkey g, x < 256 := fun x hx => by
  unfold cm.gkey at hx
  rcases List.mem_append.1 hx with h3 | h3
  · exact cm.text_byte _ (by decide) x h3
  · exact cm.text_byte _ hg x h3
theorem cm.genrec_any (g : ByteArray) (n now : Int) (w : World) (h : g.size ≤ maxLen) : Calls Try.prog 25 #[.string g, .int .i64 n, .int .i64 now] w (cm.recPostN w (if cm.gmay g n now = true then cm.grec g n now else cm.zero) (if cm.gmay g n now = true then 0 else 1)) := by
  have hck := fun wx => cm.gen_any g n wx h
  rw [cm.gen_iff] at hck
  have hwr := fun (kv : Value) (wx : World) (h0 : cm.gen g n = true) (hk : BytesV wx kv (cm.gkey g)) => have h1 := cm.gen_facts h0; cm.written_any kv (cm.gkey g) n now wx hk (by omega) (by omega)
  have hbyte : cm.gen g n = true → ∀ x ∈ cm.gkey g, x < 256 := fun h0 => have h1 := cm.gen_facts h0; cm.gkey_byte (by omega)
  have c0 : ∀ wB p wx L, WrL wB p p L wx → L.length ≤ 100000 → Calls Try.prog 48 #[.pointer (some ⟨p, 0, none⟩), .string ⟨#[103]⟩] wx fun e w' => e = .returned (.pointer (some ⟨p, 0, none⟩)) ∧ WrL wB p p (L ++ cm.text ⟨#[103]⟩) w' := fun wB p wx L h hl =>
    cm.wr_text h ⟨#[103]⟩ (Nat.le_trans (Nat.add_le_add hl (show (⟨#[103]⟩ : ByteArray).size ≤ 1 by decide)) (by omega))
  have c1 : ∀ wB p wx L, cm.gen g n = true → WrL wB p p L wx → L.length ≤ 100000 → Calls Try.prog 48 #[.pointer (some ⟨p, 0, none⟩), .string g] wx fun e w' => e = .returned (.pointer (some ⟨p, 0, none⟩)) ∧ WrL wB p p (L ++ cm.text g) w' := fun wB p wx L h0 h hl => by
    have h1 := cm.gen_facts h0
    exact cm.wr_text h g (by omega)
  have hl : cm.gen g n = true → (cm.gkey g).length ≤ 1000 := fun h0 => by
    have h1 := cm.gen_facts h0
    have h2 := (cm.text_len g).2
    have h3 : (cm.text ⟨#[103]⟩).length ≤ 11 := (cm.text_len ⟨#[103]⟩).2
    unfold cm.gkey
    rw [List.length_append]
    omega
  have hkk : cm.gkey g = [] ++ cm.text ⟨#[103]⟩ ++ cm.text g := rfl
  have hl0 : (cm.text ⟨#[103]⟩).length ≤ 11 := (cm.text_len ⟨#[103]⟩).2
  obtain ⟨R, hR⟩ : ∃ R : Int, R = if cm.gmay g n now = true then 0 else 1 := ⟨_, rfl⟩
  obtain ⟨X, hX⟩ : ∃ X : Rec, X = if cm.gmay g n now = true then cm.grec g n now else cm.zero := ⟨_, rfl⟩
  rw [← hR, ← hX]
  have hno : cm.gen g n = false → R = 1 ∧ X = cm.zero := fun h => by unfold cm.gmay at hR hX; rw [h] at hR hX; exact ⟨hR, hX⟩
  have hyes : cm.gen g n = true → R = (if cm.now now = true then 0 else 1) ∧ X = (if cm.now now = true then ⟨0, now, true, cm.gkey g, true, num.put n⟩ else cm.zero) := fun h => by unfold cm.gmay at hR hX; rw [h, Bool.true_and] at hR hX; exact ⟨hR, hX⟩
  clear hR hX h
  obtain ⟨ok, hok⟩ : ∃ b, b = cm.gen g n := ⟨_, rfl⟩
  rw [← hok] at hck hwr hbyte hno hyes c1 hl
  clear hok
  obtain ⟨K, hK⟩ : ∃ K, K = cm.gkey g := ⟨_, rfl⟩
  rw [← hK] at hwr hbyte hyes hl hkk
  clear hK
  obtain ⟨x0, hx0⟩ : ∃ K, K = cm.text ⟨#[103]⟩ := ⟨_, rfl⟩
  rw [← hx0] at c0 hkk hl0
  clear hx0
  obtain ⟨x1, hx1⟩ : ∃ K, K = cm.text g := ⟨_, rfl⟩
  rw [← hx1] at c1 hkk
  clear hx1
  obtain ⟨b0, hb0⟩ : ∃ b, b = w.heap.size := ⟨_, rfl⟩
  obtain ⟨w1, hw1⟩ : ∃ w1, w1 = w.alloc (.cells #[.int .i64 0, .int .i64 0, .bool false, .slice none 0 0, .bool false, .slice none 0 0] 37) := ⟨_, rfl⟩
  have hz1 : Blk w1 b0 37 #[.int .i64 0, .int .i64 0, .bool false, .slice none 0 0, .bool false, .slice none 0 0] := by rw [hw1, hb0]; exact Blk.new _ _ _
  have hb1 : Below w.heap.size w w1 := by rw [hw1]; exact (Below.refl _ _).alloc (Nat.le_refl _) _
  obtain ⟨C, hC⟩ : ∃ C : Int, C = if ok = true then 0 else 1 := ⟨_, rfl⟩
  rw [← hC] at hck
  have H := Lib.hid (And.intro hck (And.intro hwr (And.intro hno (And.intro hyes (And.intro hbyte (And.intro c0 (And.intro c1 (And.intro hl (And.intro hkk hl0))))))))); clear hck hwr hno hyes hbyte c0 c1 hl hkk hl0
  have H1 := Lib.hid (And.intro hz1 (And.intro hb1 hb0)); clear hz1 hb1
  go_enter Try.func25, Try.ntmps25
  go_upto_region 1 with fail
  rw [← hw1, ← hb0]
  clear hw1 hb0
  go_wp2_with fail
  refine (H.out.1 w1).mono ?_
  rintro en w2 ⟨rfl, h2⟩
  subst h2
  cases ok with
  | false =>
    obtain rfl : C = 1 := by rw [hC]; rfl
    clear hC
    have HX := Lib.hid (H.out.2.2.1 rfl)
    go_wp2_with (refine wpList_store_row rfl 37 (.tmp 6) (.tmp 15) rfl b0 #[.int .i64 0, .int .i64 0, .bool false, .slice none 0 0, .bool false, .slice none 0 0] rfl rfl 37 _ H1.out.1 cm.info_rec rfl (by simp [Value.oneCell']) ?_)
    have hz3 := H1.out.1.row #[.int .i64 0, .int .i64 0, .bool false, .slice none 0 0, .bool false, .slice none 0 0]
    have hb3 := H1.out.2.1.trans ((Chg.setRow w1 b0 #[.int .i64 0, .int .i64 0, .bool false, .slice none 0 0, .bool false, .slice none 0 0]).below H1.out.2.1.size fun k hk => by have hk : k = b0 := hk; have := H1.out.2.2; omega)
    refine bodyPost_ret (res_cell2 rfl _ _ b0 _ _ rfl hz3 Try.underlying37 rfl cm.info_rec) rfl ?_
    refine ⟨⟨_, by rw [HX.out.1]; rfl, ?_, cm.New.zero _ _⟩, hb3⟩
    rw [HX.out.2]
    exact cm.zero_v _
  | true =>
    obtain rfl : C = 0 := by rw [hC]; rfl
    clear hC
    have HX := Lib.hid (H.out.2.2.2.1 rfl)
    have HWR := Lib.hid fun kv wx hk => by have h := H.out.2.1 kv wx rfl hk; rw [← HX.out.1, ← HX.out.2] at h; exact h
    have HBY := Lib.hid (H.out.2.2.2.2.1 rfl)
    have HC := Lib.hid (And.intro H.out.2.2.2.2.2.1 fun wB p wx L => H.out.2.2.2.2.2.2.1 wB p wx L rfl)
    have HL := Lib.hid (And.intro (H.out.2.2.2.2.2.2.2.1 rfl) H.out.2.2.2.2.2.2.2.2)
    clear H
    go_upto_region 4 with fail
    obtain ⟨p, hp⟩ : ∃ p, p = w1.heap.size := ⟨_, rfl⟩
    obtain ⟨wB, hwB⟩ : ∃ wB, wB = w1.alloc (.cells #[.slice none 0 0, .bool false] 96) := ⟨_, rfl⟩
    rw [← hwB, ← hp]
    have hwr : WrL wB p p [] wB := by rw [hwB, hp]; exact WrL.start _ rfl
    have hc3B : Chg w1 wB (fun _ => False) := by rw [hwB]; exact Chg.alloc _ _ _
    have hkB := hc3B.blk H1.out.1 fun q => q
    have hbxp : b0 < p := by rw [hp]; exact H1.out.1.lt
    have hbB : Below w.heap.size w wB := H1.out.2.1.trans (hc3B.below H1.out.2.1.size fun _ q => q.elim)
    have hwp : w.heap.size ≤ p := by rw [hp]; exact H1.out.2.1.size
    have HW := Lib.hid (And.intro hkB (And.intro hbxp (And.intro hbB hwp))); clear hkB hbxp hbB hwp hc3B hwB hp
    have H0 := Lib.hid hwr; clear hwr
    go_wp2_with fail
    refine (HC.out.1 wB p _ _ H0.out (by simp)).mono ?_
    rintro en v0 ⟨rfl, h1⟩
    have H1w := Lib.hid h1; clear h1
    go_wp2_with fail
    refine (HC.out.2 wB p _ _ H1w.out (by have := HL.out.2.2; simp only [List.length_append, List.length_nil]; omega)).mono ?_
    rintro en v1 ⟨rfl, h1⟩
    rw [← HL.out.2.1] at h1
    have HD := Lib.hid (And.intro (h1.done (by have := HL.out.1; omega)) h1.2.1); clear h1
    go_wp2_with fail
    refine HD.out.1.mono ?_
    rintro en w3 ⟨⟨kv, rfl, hown⟩, hb3⟩
    have hkv : BytesV w3 kv K := cm.own_bv hown HBY.out
    have HLK := Lib.hid (show cm.Loc w.heap.size w3 kv from fun g hg => ⟨Nat.le_trans (Nat.le_trans HW.out.2.2.1.size HD.out.2.size) (hown.lt g hg).1, (hown.lt g hg).2⟩)
    have hc3 : Chg wB w3 (fun k => p ≤ k) := HD.out.2.trans (chg_of (P := fun _ => False) hb3) fun _ _ q => q.elim
    have hk3 := hc3.blk HW.out.1 (Nat.not_le.2 HW.out.2.1)
    have hb3' : Below w.heap.size w w3 := HW.out.2.2.1.trans (hc3.below HW.out.2.2.1.size fun k q => Nat.le_trans HW.out.2.2.2 q)
    have H3 := Lib.hid (And.intro hkv (And.intro hk3 hb3')); clear hkv hk3 hb3' hc3 hb3 hown
    go_wp2_with fail
    refine (HWR.out kv w3 H3.out.1).mono ?_
    rintro en w4 ⟨⟨v, rfl, hv, hnew⟩, h4⟩
    have hnw := hnew w.heap.size (by have := H3.out.2.2.size; exact this) HLK.out
    clear hnew
    have hz4 := (chg_of (P := fun _ => False) h4).blk H3.out.2.1 fun q => q
    have hb4 := H3.out.2.2.trans (h4.mono H3.out.2.2.size)
    obtain ⟨k, u, rfl, hk, hu⟩ := hv
    obtain ⟨Ak, ck, rfl, hk⟩ := hk
    obtain ⟨Au, cu, rfl, hu⟩ := hu
    have HNW := Lib.hid hnw.locs; clear hnw
    obtain ⟨nk, hnk⟩ : ∃ n, n = X.key.length := ⟨_, rfl⟩
    obtain ⟨nu, hnu⟩ : ∃ n, n = X.val.length := ⟨_, rfl⟩
    obtain ⟨xo, hxo⟩ : ∃ n, n = X.off := ⟨_, rfl⟩
    obtain ⟨xt, hxt⟩ : ∃ n, n = X.time := ⟨_, rfl⟩
    obtain ⟨xk, hxk⟩ : ∃ n, n = X.hasKey := ⟨_, rfl⟩
    obtain ⟨xv, hxv⟩ : ∃ n, n = X.hasVal := ⟨_, rfl⟩
    rw [← hnk, ← hnu, ← hxo, ← hxt, ← hxk, ← hxv]
    have H4 := Lib.hid (And.intro hk (And.intro hu (And.intro hb4 (And.intro hz4 (And.intro hnk (And.intro hnu (And.intro hxo (And.intro hxt (And.intro hxk hxv))))))))); clear hk hu hb4 h4 hz4 hnk hnu hxo hxt hxk hxv
    go_wp2_with (refine wpList_store_row rfl 37 (.tmp 6) (.tmp 27) rfl b0 #[.int .i64 xo, .int .i64 xt, .bool xk, .slice Ak nk ck, .bool xv, .slice Au nu cu] rfl rfl 37 _ H4.out.2.2.2.1 cm.info_rec rfl (by simp [Value.oneCell']) ?_)
    have hz4 := H4.out.2.2.2.1
    have hc5 := Chg.setRow w4 b0 #[.int .i64 xo, .int .i64 xt, .bool xk, .slice Ak nk ck, .bool xv, .slice Au nu cu]
    have hz5 := hz4.row #[.int .i64 xo, .int .i64 xt, .bool xk, .slice Ak nk ck, .bool xv, .slice Au nu cu]
    have hno : ∀ (j : Nat) (u : Value) (L : List Nat), (#[.int .i64 0, .int .i64 0, .bool false, .slice none 0 0, .bool false, .slice none 0 0] : Array Value)[j]? = some u → u ≠ byteAt L 0 := fun j u L hj => by
      have hj6 : j < 6 := by
        have := (Array.getElem?_eq_some_iff.1 hj).1
        simpa using this
      unfold byteAt
      rcases (by omega : j = 0 ∨ j = 1 ∨ j = 2 ∨ j = 3 ∨ j = 4 ∨ j = 5) with rfl | rfl | rfl | rfl | rfl | rfl <;> (injection hj with hj; rw [← hj]; intro h; cases h)
    have hk5 := hc5.at' H4.out.1.1 fun hn b off e q => H4.out.1.1.not_blk hn hz4 (fun j u hj => hno j u _ hj) b off e q
    have hu5 := hc5.at' H4.out.2.1.1 fun hn b off e q => H4.out.2.1.1.not_blk hn hz4 (fun j u hj => hno j u _ hj) b off e q
    have hb5 : Below w.heap.size w (w4.setRow b0 #[.int .i64 xo, .int .i64 xt, .bool xk, .slice Ak nk ck, .bool xv, .slice Au nu cu]) := H4.out.2.2.1.trans (hc5.below H4.out.2.2.1.size fun k q => by have q : k = b0 := q; have := H1.out.2.2; omega)
    refine bodyPost_ret (res_cell2 rfl _ _ b0 _ _ rfl hz5 Try.underlying37 rfl cm.info_rec) rfl ?_
    refine ⟨⟨_, rfl, ⟨.slice Ak nk ck, .slice Au nu cu, ?_, ?_, ?_⟩, ⟨_, _, _, _, _, _, rfl, HNW.out.1.any.up (Nat.le_refl _) (by simp), HNW.out.2.any.up (Nat.le_refl _) (by simp)⟩⟩, hb5⟩
    · rw [H4.out.2.2.2.2.2.2.1, H4.out.2.2.2.2.2.2.2.1, H4.out.2.2.2.2.2.2.2.2.1, H4.out.2.2.2.2.2.2.2.2.2]
    · exact ⟨Ak, ck, by rw [H4.out.2.2.2.2.1], hk5, H4.out.1.2⟩
    · exact ⟨Au, cu, by rw [H4.out.2.2.2.2.2.1], hu5, H4.out.2.1.2⟩
end
section
open Go.RowKit
set_option maxRecDepth 20000
theorem cm.acc_text (s : ByteArray) (w : World) (hs : s.size ≤ 1000) : Calls Try.prog 46 #[.string s] w fun e w' => ∃ A m c, e = .returned (.slice A m c) ∧ Acc w (.slice A m c) (cm.text s) w' ∧ m = (cm.text s).length ∧ At w' A m (byteAt (cm.text s)) := by
  refine (wire.reftext_any s w (by omega)).mono ?_
  rintro e w' ⟨⟨v, rfl, h1⟩, h2⟩
  have h : Acc w v (cm.text s) w' := ⟨h1, h2⟩
  obtain ⟨A, c, rfl, -, h3⟩ := h.at'
  exact ⟨A, _, c, rfl, h, rfl, h3⟩
theorem cm.acc_put (n : Int) (w : World) (h1 : -9223372036854775808 ≤ n) (h2 : n ≤ 9223372036854775807) : Calls Try.prog 47 #[.int .i64 n] w fun e w' => ∃ A m c, e = .returned (.slice A m c) ∧ Acc w (.slice A m c) (num.put n) w' ∧ m = (num.put n).length ∧ At w' A m (byteAt (num.put n)) := by
  refine (num.refput_any n w h1 h2).mono ?_
  rintro e w' ⟨⟨v, rfl, h1⟩, h2⟩
  have h : Acc w v (num.put n) w' := ⟨h1, h2⟩
  obtain ⟨A, c, rfl, -, h3⟩ := h.at'
  exact ⟨A, _, c, rfl, h, rfl, h3⟩
theorem cm.acc_bv {w w' : World} {v : Value} {L : List Nat} (h : Acc w v L w') (hl : ∀ x ∈ L, x < 256) : BytesV w' v L := cm.own_bv h.1 hl
theorem cm.rec_end {w w4 : World} {b0 : Nat} {X : Rec} {T : TypeId} {Ak Au : Option Addr} {nk ck nu cu : Nat} {K U : List Nat} (hz4 : Blk w4 b0 T #[.int .i64 0, .int .i64 0, .bool false, .slice none 0 0, .bool false, .slice none 0 0]) (hk : BytesV w4 (.slice Ak nk ck) K) (hu : BytesV w4 (.slice Au nu cu) U) (hb : Below w.heap.size w w4) (h0 : w.heap.size ≤ b0) (xo xt : Int) (xk xv : Bool) (hX : X = ⟨xo, xt, xk, K, xv, U⟩) :
    Blk (w4.setRow b0 #[.int .i64 xo, .int .i64 xt, .bool xk, .slice Ak nk ck, .bool xv, .slice Au nu cu]) b0 T #[.int .i64 xo, .int .i64 xt, .bool xk, .slice Ak nk ck, .bool xv, .slice Au nu cu]
    ∧ cm.RecV (w4.setRow b0 #[.int .i64 xo, .int .i64 xt, .bool xk, .slice Ak nk ck, .bool xv, .slice Au nu cu]) (.agg #[.int .i64 xo, .int .i64 xt, .bool xk, .slice Ak nk ck, .bool xv, .slice Au nu cu]) X
    ∧ Below w.heap.size w (w4.setRow b0 #[.int .i64 xo, .int .i64 xt, .bool xk, .slice Ak nk ck, .bool xv, .slice Au nu cu]) := by
  subst hX
  have hc5 := Chg.setRow w4 b0 #[.int .i64 xo, .int .i64 xt, .bool xk, .slice Ak nk ck, .bool xv, .slice Au nu cu]
  have hz5 := hz4.row #[.int .i64 xo, .int .i64 xt, .bool xk, .slice Ak nk ck, .bool xv, .slice Au nu cu]
  have hno : ∀ (j : Nat) (u : Value) (L : List Nat), (#[.int .i64 0, .int .i64 0, .bool false, .slice none 0 0, .bool false, .slice none 0 0] : Array Value)[j]? = some u → u ≠ byteAt L 0 := fun j u L hj => by
    have hj6 : j < 6 := by
      have := (Array.getElem?_eq_some_iff.1 hj).1
      simpa using this
    unfold byteAt
    rcases (by omega : j = 0 ∨ j = 1 ∨ j = 2 ∨ j = 3 ∨ j = 4 ∨ j = 5) with rfl | rfl | rfl | rfl | rfl | rfl <;> (injection hj with hj; rw [← hj]; intro h; cases h)
  obtain ⟨A1, c1, e1, hk1, hk2⟩ := hk
  obtain ⟨A2, c2, e2, hu1, hu2⟩ := hu
  have hk5 := hc5.at' hk1 fun hn b off e q => hk1.not_blk hn hz4 (fun j u hj => hno j u _ hj) b off e q
  have hu5 := hc5.at' hu1 fun hn b off e q => hu1.not_blk hn hz4 (fun j u hj => hno j u _ hj) b off e q
  exact ⟨hz5, ⟨_, _, rfl, ⟨A1, c1, e1, hk5, hk2⟩, ⟨A2, c2, e2, hu5, hu2⟩⟩, hb.trans (hc5.below hb.size fun k q => by have q : k = b0 := q; omega)⟩
theorem cm.rplace_any (e : CEnt) (w : World) (h : e.fit) : Calls Try.prog 32 #[.agg e.cells] w fun en w' => en = .returned (.bool (cm.place e.grp e.top e.part)) ∧ Below w.heap.size w w' := by
  obtain ⟨g, t, p, o⟩ := e
  have hcg := fun wx => cm.reftopic_any g wx h.1
  have hct := fun wx => cm.reftopic_any t wx h.2
  unfold cm.place CEnt.cells
  simp only
  obtain ⟨b1, hb1⟩ : ∃ b, b = cm.topic g := ⟨_, rfl⟩
  obtain ⟨b2, hb2⟩ : ∃ b, b = cm.topic t := ⟨_, rfl⟩
  rw [← hb1] at hcg ⊢
  rw [← hb2] at hct ⊢
  clear hb1 hb2 h
  obtain ⟨R, hR⟩ : ∃ R, R = (b1 && b2 && decide (0 ≤ p) && decide (p ≤ 999)) := ⟨_, rfl⟩
  rw [← hR]
  have HR := Lib.hid hR; clear hR
  have HG := Lib.hid hcg; have HT := Lib.hid hct
  clear hcg hct
  cases b1 with
  | false =>
    go_enter Try.func32, Try.ntmps32
    go_wp2_with fail
    refine (HG.out _).mono ?_
    rintro en wx ⟨rfl, h3⟩
    subst h3
    go_wp2_with fail
    go_ret
    exact ⟨by rw [HR.out]; rfl, (Below.refl w.heap.size w).alloc (Nat.le_refl _) _⟩
  | true =>
    cases b2 with
    | false =>
      go_enter Try.func32, Try.ntmps32
      go_wp2_with fail
      refine (HG.out _).mono ?_
      rintro en wx ⟨rfl, h3⟩
      subst h3
      go_wp2_with fail
      refine (HT.out _).mono ?_
      rintro en wx ⟨rfl, h3⟩
      subst h3
      go_wp2_with fail
      go_ret
      exact ⟨by rw [HR.out]; rfl, (Below.refl w.heap.size w).alloc (Nat.le_refl _) _⟩
    | true =>
      by_cases h1 : 0 ≤ p
      · have d1 : decide (0 ≤ p) = true := decide_eq_true h1
        by_cases h2 : p ≤ 999
        · have d2 : decide (p ≤ 999) = true := decide_eq_true h2
          go_enter Try.func32, Try.ntmps32
          go_wp2_with fail
          refine (HG.out _).mono ?_
          rintro en wx ⟨rfl, h3⟩
          subst h3
          go_wp2_with fail
          refine (HT.out _).mono ?_
          rintro en wx ⟨rfl, h3⟩
          subst h3
          go_wp2_with fail
          go_ret
          exact ⟨by rw [HR.out, decide_eq_true (p := 0 ≤ p) (by omega), decide_eq_true (p := p ≤ 999) (by omega)]; rfl, (Below.refl w.heap.size w).alloc (Nat.le_refl _) _⟩
        · have d2 : decide (p ≤ 999) = false := decide_eq_false h2
          go_enter Try.func32, Try.ntmps32
          go_wp2_with fail
          refine (HG.out _).mono ?_
          rintro en wx ⟨rfl, h3⟩
          subst h3
          go_wp2_with fail
          refine (HT.out _).mono ?_
          rintro en wx ⟨rfl, h3⟩
          subst h3
          go_wp2_with fail
          go_ret
          exact ⟨by rw [HR.out, decide_eq_true (p := 0 ≤ p) (by omega), decide_eq_false (p := p ≤ 999) (by omega)]; rfl, (Below.refl w.heap.size w).alloc (Nat.le_refl _) _⟩
      · have d1 : decide (0 ≤ p) = false := decide_eq_false h1
        go_enter Try.func32, Try.ntmps32
        go_wp2_with fail
        refine (HG.out _).mono ?_
        rintro en wx ⟨rfl, h3⟩
        subst h3
        go_wp2_with fail
        refine (HT.out _).mono ?_
        rintro en wx ⟨rfl, h3⟩
        subst h3
        go_wp2_with fail
        go_ret
        exact ⟨by rw [HR.out, decide_eq_false (p := 0 ≤ p) (by omega)]; rfl, (Below.refl w.heap.size w).alloc (Nat.le_refl _) _⟩
theorem cm.info_rent : (Try.prog.info? 24).map (·.size) = some 4 := by kernel_rfl
set_option maxHeartbeats 4000000 in
theorem cm.rrecord_any (e : CEnt) (now : Int) (w : World) (h : e.fit) : Calls Try.prog 24 #[.agg e.cells, .int .i64 now] w (cm.recPost w (if e.may now = true then e.told now else cm.zero) (if e.may now = true then 0 else 1)) := by
  have hck := fun wx => cm.rplace_any e wx h
  obtain ⟨R, hR⟩ : ∃ R : Int, R = if e.may now = true then 0 else 1 := ⟨_, rfl⟩
  obtain ⟨X, hX⟩ : ∃ X : Rec, X = if e.may now = true then e.told now else cm.zero := ⟨_, rfl⟩
  rw [← hR, ← hX]
  have hno : e.may now = false → R = 1 ∧ X = cm.zero := fun h => by rw [h] at hR hX; exact ⟨hR, hX⟩
  have hyes : e.may now = true → R = 0 ∧ X = e.told now := fun h => by rw [h] at hR hX; exact ⟨hR, hX⟩
  have hmay : e.may now = (cm.place e.grp e.top e.part && decide (0 ≤ e.off) && decide (e.off ≤ 4611686018427387904) && (decide (0 ≤ now) && decide (now ≤ 1125899906842624))) := rfl
  have hfacts := fun (h0 : e.may now = true) => CEnt.ok_place (e := e) (by unfold CEnt.may at h0; simp only [Bool.and_eq_true] at h0; exact h0.1)
  clear hR hX h
  obtain ⟨b, hb⟩ : ∃ b, b = cm.place e.grp e.top e.part := ⟨_, rfl⟩
  rw [← hb] at hck hmay
  clear hb
  obtain ⟨g, t, p, o⟩ := e
  unfold CEnt.cells at hck ⊢
  simp only at hck hmay
  obtain ⟨b0, hb0⟩ : ∃ b, b = w.heap.size := ⟨_, rfl⟩
  obtain ⟨w1, hw1⟩ : ∃ w1, w1 = (w.alloc (.cells #[.string g, .string t, .int .i64 p, .int .i64 o] 24)).alloc (.cells #[.int .i64 0, .int .i64 0, .bool false, .slice none 0 0, .bool false, .slice none 0 0] 37) := ⟨_, rfl⟩
  have hk1 : Blk w1 b0 24 #[.string g, .string t, .int .i64 p, .int .i64 o] := by rw [hw1, hb0]; exact (Chg.alloc _ _ (fun _ => False)).blk (Blk.new _ _ _) fun q => q
  have hz1 : Blk w1 (b0 + 1) 37 #[.int .i64 0, .int .i64 0, .bool false, .slice none 0 0, .bool false, .slice none 0 0] := by rw [hw1, hb0]; exact heap_alloc2_new w _ _
  have hb1 : Below w.heap.size w w1 := by rw [hw1]; exact ((Below.refl _ _).alloc (Nat.le_refl _) _).alloc (by simp) _
  have HM := Lib.hid (And.intro hno (And.intro hyes (And.intro hmay hfacts))); clear hno hyes hmay hfacts
  have H := Lib.hid (And.intro hck (And.intro hk1 (And.intro hz1 (And.intro hb1 hb0)))); clear hck hk1 hz1 hb1
  go_enter Try.func24, Try.ntmps24
  go_upto_region 1 with fail
  rw [← hw1, ← hb0]
  clear hw1 hb0
  go_wp2_with (first
    | (show Go.wpList _ _ _ (⟨_, .load _ (.tmp 2), _, _, _, _⟩ :: _) _ _; refine wpList_load_row rfl 24 (.tmp 2) rfl b0 rfl 24 #[.string g, .string t, .int .i64 p, .int .i64 o] (0, 0) _ H.out.2.1 Try.underlying24 rfl cm.info_rent ?_)
    | fail)
  refine (H.out.1 w1).mono ?_
  rintro en w2 ⟨rfl, h2⟩
  have hc2 : Chg w1 w2 (fun _ => False) := chg_of h2
  have hk2 := hc2.blk H.out.2.1 fun q => q
  have hz2 := hc2.blk H.out.2.2.1 fun q => q
  have hb2 := H.out.2.2.2.1.trans (h2.mono H.out.2.2.2.1.size)
  have c3 := hk2.cell 3 (v := .int .i64 o) rfl
  have cl := hk2.lt
  have H2 := Lib.hid (And.intro hk2 (And.intro hz2 (And.intro hb2 H.out.2.2.2.2))); clear hk2 hz2 hb2 hc2 h2
  clear H
  cases b with
  | false =>
    have HX := Lib.hid (HM.out.1 (by rw [HM.out.2.2.1, Bool.false_and, Bool.false_and, Bool.false_and]))
    go_wp2_with (refine wpList_store_row rfl 37 (.tmp 4) (.tmp 28) rfl (b0 + 1) #[.int .i64 0, .int .i64 0, .bool false, .slice none 0 0, .bool false, .slice none 0 0] rfl rfl 37 _ H2.out.2.1 cm.info_rec rfl (by simp [Value.oneCell']) ?_)
    have hz3 := H2.out.2.1.row #[.int .i64 0, .int .i64 0, .bool false, .slice none 0 0, .bool false, .slice none 0 0]
    have hb3 := H2.out.2.2.1.trans ((Chg.setRow w2 (b0 + 1) #[.int .i64 0, .int .i64 0, .bool false, .slice none 0 0, .bool false, .slice none 0 0]).below H2.out.2.2.1.size fun k hk => by have hk : k = b0 + 1 := hk; have := H2.out.2.2.2; omega)
    refine bodyPost_ret (res_cell2 rfl _ _ (b0 + 1) _ _ rfl hz3 Try.underlying37 rfl cm.info_rec) rfl ?_
    refine ⟨⟨_, by rw [HX.out.1]; rfl, ?_⟩, hb3⟩
    rw [HX.out.2]
    exact cm.zero_v _
  | true =>
    by_cases q0 : o < 0
    · have d0 : decide (o < 0) = true := decide_eq_true q0
      have HX := Lib.hid (HM.out.1 (by rw [HM.out.2.2.1, decide_eq_false (p := 0 ≤ o) (by omega), Bool.and_false, Bool.false_and, Bool.false_and]))
      go_wp2_with (refine wpList_store_row rfl 37 (.tmp 4) (.tmp 28) rfl (b0 + 1) #[.int .i64 0, .int .i64 0, .bool false, .slice none 0 0, .bool false, .slice none 0 0] rfl rfl 37 _ H2.out.2.1 cm.info_rec rfl (by simp [Value.oneCell']) ?_)
      have hz3 := H2.out.2.1.row #[.int .i64 0, .int .i64 0, .bool false, .slice none 0 0, .bool false, .slice none 0 0]
      have hb3 := H2.out.2.2.1.trans ((Chg.setRow w2 (b0 + 1) #[.int .i64 0, .int .i64 0, .bool false, .slice none 0 0, .bool false, .slice none 0 0]).below H2.out.2.2.1.size fun k hk => by have hk : k = b0 + 1 := hk; have := H2.out.2.2.2; omega)
      refine bodyPost_ret (res_cell2 rfl _ _ (b0 + 1) _ _ rfl hz3 Try.underlying37 rfl cm.info_rec) rfl ?_
      refine ⟨⟨_, by rw [HX.out.1]; rfl, ?_⟩, hb3⟩
      rw [HX.out.2]
      exact cm.zero_v _
    have d0 : decide (o < 0) = false := decide_eq_false q0
    by_cases q1 : 4611686018427387904 < o
    · have d1 : decide (4611686018427387904 < o) = true := decide_eq_true q1
      have HX := Lib.hid (HM.out.1 (by rw [HM.out.2.2.1, decide_eq_false (p := o ≤ 4611686018427387904) (by omega), Bool.and_false, Bool.false_and]))
      go_wp2_with (refine wpList_store_row rfl 37 (.tmp 4) (.tmp 28) rfl (b0 + 1) #[.int .i64 0, .int .i64 0, .bool false, .slice none 0 0, .bool false, .slice none 0 0] rfl rfl 37 _ H2.out.2.1 cm.info_rec rfl (by simp [Value.oneCell']) ?_)
      have hz3 := H2.out.2.1.row #[.int .i64 0, .int .i64 0, .bool false, .slice none 0 0, .bool false, .slice none 0 0]
      have hb3 := H2.out.2.2.1.trans ((Chg.setRow w2 (b0 + 1) #[.int .i64 0, .int .i64 0, .bool false, .slice none 0 0, .bool false, .slice none 0 0]).below H2.out.2.2.1.size fun k hk => by have hk : k = b0 + 1 := hk; have := H2.out.2.2.2; omega)
      refine bodyPost_ret (res_cell2 rfl _ _ (b0 + 1) _ _ rfl hz3 Try.underlying37 rfl cm.info_rec) rfl ?_
      refine ⟨⟨_, by rw [HX.out.1]; rfl, ?_⟩, hb3⟩
      rw [HX.out.2]
      exact cm.zero_v _
    have d1 : decide (4611686018427387904 < o) = false := decide_eq_false q1
    by_cases q2 : now < 0
    · have d2 : decide (now < 0) = true := decide_eq_true q2
      have HX := Lib.hid (HM.out.1 (by rw [HM.out.2.2.1, decide_eq_false (p := 0 ≤ now) (by omega), Bool.false_and, Bool.and_false]))
      go_wp2_with (refine wpList_store_row rfl 37 (.tmp 4) (.tmp 28) rfl (b0 + 1) #[.int .i64 0, .int .i64 0, .bool false, .slice none 0 0, .bool false, .slice none 0 0] rfl rfl 37 _ H2.out.2.1 cm.info_rec rfl (by simp [Value.oneCell']) ?_)
      have hz3 := H2.out.2.1.row #[.int .i64 0, .int .i64 0, .bool false, .slice none 0 0, .bool false, .slice none 0 0]
      have hb3 := H2.out.2.2.1.trans ((Chg.setRow w2 (b0 + 1) #[.int .i64 0, .int .i64 0, .bool false, .slice none 0 0, .bool false, .slice none 0 0]).below H2.out.2.2.1.size fun k hk => by have hk : k = b0 + 1 := hk; have := H2.out.2.2.2; omega)
      refine bodyPost_ret (res_cell2 rfl _ _ (b0 + 1) _ _ rfl hz3 Try.underlying37 rfl cm.info_rec) rfl ?_
      refine ⟨⟨_, by rw [HX.out.1]; rfl, ?_⟩, hb3⟩
      rw [HX.out.2]
      exact cm.zero_v _
    have d2 : decide (now < 0) = false := decide_eq_false q2
    by_cases q3 : 1125899906842624 < now
    · have d3 : decide (1125899906842624 < now) = true := decide_eq_true q3
      have HX := Lib.hid (HM.out.1 (by rw [HM.out.2.2.1, decide_eq_false (p := now ≤ 1125899906842624) (by omega), Bool.and_false, Bool.and_false]))
      go_wp2_with (refine wpList_store_row rfl 37 (.tmp 4) (.tmp 28) rfl (b0 + 1) #[.int .i64 0, .int .i64 0, .bool false, .slice none 0 0, .bool false, .slice none 0 0] rfl rfl 37 _ H2.out.2.1 cm.info_rec rfl (by simp [Value.oneCell']) ?_)
      have hz3 := H2.out.2.1.row #[.int .i64 0, .int .i64 0, .bool false, .slice none 0 0, .bool false, .slice none 0 0]
      have hb3 := H2.out.2.2.1.trans ((Chg.setRow w2 (b0 + 1) #[.int .i64 0, .int .i64 0, .bool false, .slice none 0 0, .bool false, .slice none 0 0]).below H2.out.2.2.1.size fun k hk => by have hk : k = b0 + 1 := hk; have := H2.out.2.2.2; omega)
      refine bodyPost_ret (res_cell2 rfl _ _ (b0 + 1) _ _ rfl hz3 Try.underlying37 rfl cm.info_rec) rfl ?_
      refine ⟨⟨_, by rw [HX.out.1]; rfl, ?_⟩, hb3⟩
      rw [HX.out.2]
      exact cm.zero_v _
    have d3 : decide (1125899906842624 < now) = false := decide_eq_false q3
    have hm : CEnt.may ⟨g, t, p, o⟩ now = true := by rw [HM.out.2.2.1, decide_eq_true (p := 0 ≤ o) (by omega), decide_eq_true (p := o ≤ 4611686018427387904) (by omega), decide_eq_true (p := 0 ≤ now) (by omega), decide_eq_true (p := now ≤ 1125899906842624) (by omega)]; rfl
    have HX := Lib.hid (And.intro (HM.out.2.1 hm) (HM.out.2.2.2 hm)); clear hm
    clear HM
    go_upto_region 3 with fail
    clear d0 d1 d2 d3 q0 q1 q2 q3 c3 cl
    have hl : (cm.text ⟨#[111]⟩).length ≤ 11 ∧ (cm.text g).length ≤ 30 ∧ (cm.text t).length ≤ 30 ∧ (num.put p).length ≤ 10 := by
      have h1 := HX.out.2.1
      have h2 := HX.out.2.2.1
      have h3 := (cm.text_len g).2
      have h4 := (cm.text_len t).2
      have h5 := (num.put_bd p).2
      have h6 : (cm.text ⟨#[111]⟩).length ≤ 11 := (cm.text_len ⟨#[111]⟩).2
      omega
    have hT0 := fun wx => cm.acc_text ⟨#[111]⟩ wx (by decide)
    have hT1 := fun wx => cm.acc_text g wx (by have := HX.out.2.1; omega)
    have hT2 := fun wx => cm.acc_text t wx (by have := HX.out.2.2.1; omega)
    have hT3 := fun wx => cm.acc_put p wx (by have := HX.out.2.2.2.1; omega) (by have := HX.out.2.2.2.2.1; omega)
    have hT4 := fun wx => cm.acc_put o wx (by have := HX.out.2.2.2.2.2.1; omega) (by have := HX.out.2.2.2.2.2.2; omega)
    have hkk : CEnt.key ⟨g, t, p, o⟩ = cm.text ⟨#[111]⟩ ++ cm.text g ++ cm.text t ++ num.put p := rfl
    have hkb : ∀ x ∈ CEnt.key ⟨g, t, p, o⟩, x < 256 := CEnt.key_byte (e := ⟨g, t, p, o⟩) (show g.size ≤ 100 by have := HX.out.2.1; omega) (show t.size ≤ 100 by have := HX.out.2.2.1; omega) (show -9223372036854775808 ≤ p by have := HX.out.2.2.2.1; omega) (show p ≤ 9223372036854775807 by have := HX.out.2.2.2.2.1; omega)
    have hvb : ∀ x ∈ num.put o, x < 256 := num.put_byte o (by have := HX.out.2.2.2.2.2.1; omega) (by have := HX.out.2.2.2.2.2.2; omega)
    have hRX : R = 0 ∧ X = ⟨0, now, true, CEnt.key ⟨g, t, p, o⟩, true, num.put o⟩ := HX.out.1
    clear HX
    obtain ⟨K, hK⟩ : ∃ K, K = CEnt.key ⟨g, t, p, o⟩ := ⟨_, rfl⟩
    rw [← hK] at hkk hkb hRX
    clear hK
    obtain ⟨x0, hx0⟩ : ∃ x, x = cm.text ⟨#[111]⟩ := ⟨_, rfl⟩
    obtain ⟨x1, hx1⟩ : ∃ x, x = cm.text g := ⟨_, rfl⟩
    obtain ⟨x2, hx2⟩ : ∃ x, x = cm.text t := ⟨_, rfl⟩
    obtain ⟨x3, hx3⟩ : ∃ x, x = num.put p := ⟨_, rfl⟩
    obtain ⟨x4, hx4⟩ : ∃ x, x = num.put o := ⟨_, rfl⟩
    rw [← hx0] at hl hkk hT0
    rw [← hx1] at hl hkk hT1
    rw [← hx2] at hl hkk hT2
    rw [← hx3] at hl hkk hT3
    rw [← hx4] at hvb hT4 hRX
    have HT := Lib.hid (And.intro hT0 (And.intro hT1 (And.intro hT2 (And.intro hT3 hT4))))
    have HL := Lib.hid (And.intro hl (And.intro hkk (And.intro hkb (And.intro hvb hRX))))
    clear hl hT0 hT1 hT2 hT3 hT4 hkk hkb hvb hRX hx0 hx1 hx2 hx3 hx4
    have hkd : ∀ x : Later w2 (fun _ => False), Blk x.1 b0 24 #[.string g, .string t, .int .i64 p, .int .i64 o] := fun x => x.2.blk H2.out.1 fun q => q
    have z0 : ∀ x : Later w2 (fun _ => False), x.1.cell? ⟨b0, 0, none⟩ = some (.string g) := fun x => (hkd x).cell 0 rfl
    have z1 : ∀ x : Later w2 (fun _ => False), x.1.cell? ⟨b0, 1, none⟩ = some (.string t) := fun x => (hkd x).cell 1 rfl
    have z2 : ∀ x : Later w2 (fun _ => False), x.1.cell? ⟨b0, 2, none⟩ = some (.int .i64 p) := fun x => (hkd x).cell 2 rfl
    have HKD := Lib.hid hkd; clear hkd
    have hS0 : later w2 (fun _ => False) w2.drew := later_of ((Chg.refl _ _).drew)
    obtain ⟨wd, hwd⟩ : ∃ wd, wd = w2.drew := ⟨_, rfl⟩
    have hcd : Chg w2 wd (fun _ => False) := by rw [hwd]; exact (Chg.refl _ _).drew
    have HD := Lib.hid hcd
    refine wp_plan (S := fun w0 => ∃ x : Later w2 (fun _ => False), w0 = x.1) (by kernel_rfl) hS0 ?_
    intro hS' K5 hK5
    have HS := Lib.hid hS'; clear hS' hS0
    rw [← hwd] at HS ⊢
    clear hwd hcd
    refine plan_group [false, true, true, false, false, true, true, false, false, true, true] [1, 2, 5, 6, 9, 10] 8 (by dsimp only [sel]) (by rfl) rfl (by kernel_rfl) (by kernel_rfl) HS.out ?_
    (repeat go_big_quiet_step (fail)); refine wpQuiet_nil ?_
    clear z0 z1 z2
    have hlt : ∀ (v : Value) (L : List Nat) (wx : World), Acc wd v L wx → later w2 (fun _ => False) wx := fun _ _ _ h => later_of (HD.out.trans (chg_of h.2) fun _ _ q => q)
    have HLT := Lib.hid hlt; clear hlt
    refine plan_one [true] 0 7 (by dsimp only [sel]) (by rfl) rfl (by kernel_rfl) ?_; intro K0 hK0
    go_wp2_with fail
    refine (HT.out.1 wd).mono ?_
    rintro en t0 ⟨A0, m0, c0, rfl, h0, -, -⟩
    have hq := HLT.out _ _ _ h0
    have A0' := Lib.hid h0; clear h0
    go_wp2_with fail
    refine ⟨by first | exact hq | exact fun _ => hq, ?_⟩
    clear hq
    refine plan_one [false, false, false, true] 3 6 (by dsimp only [sel]) (by rfl) rfl (by kernel_rfl) ?_; intro K1 hK1
    go_wp2_with fail
    refine (HT.out.2.1 t0).mono ?_
    rintro en t1 ⟨A1, m1, c1, rfl, h1, hm1, hat1⟩
    have hA := A0'.out.keep h1.2
    have hq := HLT.out _ _ _ hA
    have B1 := Lib.hid (And.intro hA (And.intro hm1 hat1)); clear hA hm1 hat1 h1
    go_wp2_with fail
    refine ⟨by first | exact hq | exact fun _ => hq, ?_⟩
    clear hq A0'
    refine plan_one [false, false, false, false, true] 4 5 (by dsimp only [sel]) (by rfl) rfl (by kernel_rfl) ?_; intro K2 hK2
    go_wp2_with (refine wpList_acc rfl (.tmp 29) (.tmp 32) rfl (.slice A0 m0 c0) x0 rfl B1.out.1 A1 m1 c1 x1 rfl B1.out.2.1.symm B1.out.2.2 (by have := HL.out.1; omega) ?_; intro v2 t2 h2; obtain ⟨A2, c2, rfl, -, -⟩ := h2.at'; obtain ⟨m2, hm2⟩ : ∃ m, m = (x0 ++ x1).length := ⟨_, rfl⟩; rw [← hm2] at h2 ⊢; clear hm2; have hq := HLT.out _ _ _ h2; have B2 := Lib.hid h2; clear h2)
    refine ⟨by first | exact hq | exact fun _ => hq, ?_⟩
    clear hq B1
    refine plan_one [false, false, false, false, false, false, false, true] 7 4 (by dsimp only [sel]) (by rfl) rfl (by kernel_rfl) ?_; intro K3 hK3
    go_wp2_with fail
    refine (HT.out.2.2.1 t2).mono ?_
    rintro en t3 ⟨A3, m3, c3, rfl, h3, hm3, hat3⟩
    have hA := B2.out.keep h3.2
    have hq := HLT.out _ _ _ hA
    have B3 := Lib.hid (And.intro hA (And.intro hm3 hat3)); clear hA hm3 hat3 h3
    go_wp2_with fail
    refine ⟨by first | exact hq | exact fun _ => hq, ?_⟩
    clear hq B2
    refine plan_one [false, false, false, false, false, false, false, false, true] 8 3 (by dsimp only [sel]) (by rfl) rfl (by kernel_rfl) ?_; intro K4 hK4
    go_wp2_with (refine wpList_acc rfl (.tmp 33) (.tmp 36) rfl (.slice A2 m2 c2) (x0 ++ x1) rfl B3.out.1 A3 m3 c3 x2 rfl B3.out.2.1.symm B3.out.2.2 (by have := HL.out.1; rw [List.length_append]; omega) ?_; intro v4 t4 h4; obtain ⟨A4, c4, rfl, -, -⟩ := h4.at'; obtain ⟨m4, hm4⟩ : ∃ m, m = (x0 ++ x1 ++ x2).length := ⟨_, rfl⟩; rw [← hm4] at h4 ⊢; clear hm4; have hq := HLT.out _ _ _ h4; have B4 := Lib.hid h4; clear h4)
    refine ⟨by first | exact hq | exact fun _ => hq, ?_⟩
    clear hq B3
    refine plan_one [false, false, false, false, false, false, false, false, false, false, false, true] 11 2 (by dsimp only [sel]) (by rfl) rfl (by kernel_rfl) ?_; intro K5' hK5'
    go_wp2_with fail
    refine (HT.out.2.2.2.1 t4).mono ?_
    rintro en t5 ⟨A5, m5, c5, rfl, h5, hm5, hat5⟩
    have hA := B4.out.keep h5.2
    have hq := HLT.out _ _ _ hA
    have B5 := Lib.hid (And.intro hA (And.intro hm5 hat5)); clear hA hm5 hat5 h5
    go_wp2_with fail
    refine ⟨by first | exact hq | exact fun _ => hq, ?_⟩
    clear hq B4
    refine plan_one [false, false, false, false, false, false, false, false, false, false, false, false, true] 12 1 (by dsimp only [sel]) (by rfl) rfl (by kernel_rfl) ?_; intro K6 hK6
    go_wp2_with (refine wpList_acc rfl (.tmp 37) (.tmp 40) rfl (.slice A4 m4 c4) (x0 ++ x1 ++ x2) rfl B5.out.1 A5 m5 c5 x3 rfl B5.out.2.1.symm B5.out.2.2 (by have := HL.out.1; rw [List.length_append, List.length_append]; omega) ?_; intro v6 t6 h6; rw [← HL.out.2.1] at h6; obtain ⟨A6, c6, rfl, -, -⟩ := h6.at'; obtain ⟨m6, hm6⟩ : ∃ m, m = K.length := ⟨_, rfl⟩; rw [← hm6] at h6 ⊢; have hq := HLT.out _ _ _ h6; have B6 := Lib.hid (And.intro h6 hm6); clear h6 hm6)
    refine ⟨by first | exact hq | exact fun _ => hq, ?_⟩
    clear B5
    refine plan_group [false, false, false, false, false, false, false, false, false, false, false, false, false, true] [13] 0 (by dsimp only [sel]) (by rfl) rfl (by kernel_rfl) (by kernel_rfl) hq ?_
    clear hq
    go_simp
    (repeat go_big_quiet_step (fail)); refine wpQuiet_nil ?_
    refine wp_plan_end (by kernel_rfl) ?_
    refine hK5 _ _ ?_
    clear HS
    have hc6 : Chg w2 t6 (fun _ => False) := HD.out.trans (chg_of B6.out.1.2) fun _ _ q => q
    have hk6 := hc6.blk H2.out.1 fun q => q
    have c3 := hk6.cell 3 (v := .int .i64 o) rfl
    have cl := hk6.lt
    have HC6 := Lib.hid hc6; clear hc6 hk6
    go_wp2_with fail
    refine (HT.out.2.2.2.2 t6).mono ?_
    rintro en w4 ⟨Au, nu, cu, rfl, h4, hnu, hu⟩
    have hk := (B6.out.1.keep h4.2).at'
    obtain ⟨A6', c6', e6, hkc, hk⟩ := hk
    obtain ⟨rfl, rfl⟩ : A6 = A6' ∧ c6 = c6' := by injection e6 with q1 q2 q3; exact ⟨q1, q3⟩
    have hbk := cm.acc_bv (B6.out.1.keep h4.2) HL.out.2.2.1
    have hbu := cm.acc_bv h4 HL.out.2.2.2.1
    have hc4 : Chg w2 w4 (fun _ => False) := HC6.out.trans (chg_of h4.2) fun _ _ q => q
    have hz4 := hc4.blk H2.out.2.1 fun q => q
    have hb4 := H2.out.2.2.1.trans (hc4.below H2.out.2.2.1.size fun _ q => q.elim)
    have H4 := Lib.hid (And.intro hbk (And.intro hbu (And.intro hb4 (And.intro hz4 (And.intro hk hu))))); clear hk hu hb4 hz4 hbk hbu hc4 h4 e6 c3 cl hkc hnu
    go_wp2_with (refine wpList_store_row rfl 37 (.tmp 4) (.tmp 47) rfl (b0 + 1) #[.int .i64 0, .int .i64 now, .bool true, .slice A6 m6 c6, .bool true, .slice Au nu cu] rfl rfl 37 _ H4.out.2.2.2.1 cm.info_rec rfl (by simp [Value.oneCell']) ?_)
    have hfin := cm.rec_end (b0 := b0 + 1) (w := w) (X := X) H4.out.2.2.2.1 H4.out.1 H4.out.2.1 H4.out.2.2.1 (by have := H2.out.2.2.2; omega) 0 now true true HL.out.2.2.2.2.2
    refine bodyPost_ret (res_cell2 rfl _ _ (b0 + 1) _ _ rfl hfin.1 Try.underlying37 rfl cm.info_rec) rfl ?_
    exact ⟨⟨_, by rw [HL.out.2.2.2.2.1]; rfl, hfin.2.1⟩, hfin.2.2⟩
end
section
open Go.RowKit
set_option maxRecDepth 20000
set_option maxHeartbeats 4000000 in
theorem cm.rgenrec_any (g : ByteArray) (n now : Int) (w : World) (h : g.size ≤ maxLen) : Calls Try.prog 26 #[.string g, .int .i64 n, .int .i64 now] w (cm.recPost w (if cm.gmay g n now = true then cm.grec g n now else cm.zero) (if cm.gmay g n now = true then 0 else 1)) := by
  have hck := fun wx => cm.reftopic_any g wx h
  obtain ⟨R, hR⟩ : ∃ R : Int, R = if cm.gmay g n now = true then 0 else 1 := ⟨_, rfl⟩
  obtain ⟨X, hX⟩ : ∃ X : Rec, X = if cm.gmay g n now = true then cm.grec g n now else cm.zero := ⟨_, rfl⟩
  rw [← hR, ← hX]
  have hno : cm.gmay g n now = false → R = 1 ∧ X = cm.zero := fun h => by rw [h] at hR hX; exact ⟨hR, hX⟩
  have hyes : cm.gmay g n now = true → R = 0 ∧ X = cm.grec g n now := fun h => by rw [h] at hR hX; exact ⟨hR, hX⟩
  have hmay : cm.gmay g n now = (cm.topic g && decide (0 ≤ n) && decide (n ≤ 1099511627776) && (decide (0 ≤ now) && decide (now ≤ 1125899906842624))) := rfl
  have hfacts := fun (h0 : cm.gmay g n now = true) => cm.gen_facts (g := g) (n := n) (by unfold cm.gmay at h0; simp only [Bool.and_eq_true] at h0; exact h0.1)
  clear hR hX h
  obtain ⟨b, hb⟩ : ∃ b, b = cm.topic g := ⟨_, rfl⟩
  rw [← hb] at hck hmay
  clear hb
  obtain ⟨b0, hb0⟩ : ∃ b, b = w.heap.size := ⟨_, rfl⟩
  obtain ⟨w1, hw1⟩ : ∃ w1, w1 = w.alloc (.cells #[.int .i64 0, .int .i64 0, .bool false, .slice none 0 0, .bool false, .slice none 0 0] 37) := ⟨_, rfl⟩
  have hz1 : Blk w1 b0 37 #[.int .i64 0, .int .i64 0, .bool false, .slice none 0 0, .bool false, .slice none 0 0] := by rw [hw1, hb0]; exact Blk.new _ _ _
  have hb1 : Below w.heap.size w w1 := by rw [hw1]; exact (Below.refl _ _).alloc (Nat.le_refl _) _
  have HM := Lib.hid (And.intro hno (And.intro hyes (And.intro hmay hfacts))); clear hno hyes hmay hfacts
  have H := Lib.hid hck; clear hck
  have H2 := Lib.hid (And.intro True.intro (And.intro hz1 (And.intro hb1 hb0))); clear hz1 hb1
  go_enter Try.func26, Try.ntmps26
  go_upto_region 1 with fail
  rw [← hw1, ← hb0]
  clear hw1 hb0
  go_wp2_with fail
  refine (H.out w1).mono ?_
  rintro en w2 ⟨rfl, h2⟩
  subst h2
  clear H
  cases b with
  | false =>
    have HX := Lib.hid (HM.out.1 (by rw [HM.out.2.2.1, Bool.false_and, Bool.false_and, Bool.false_and]))
    go_wp2_with (refine wpList_store_row rfl 37 (.tmp 6) (.tmp 27) rfl (b0) #[.int .i64 0, .int .i64 0, .bool false, .slice none 0 0, .bool false, .slice none 0 0] rfl rfl 37 _ H2.out.2.1 cm.info_rec rfl (by simp [Value.oneCell']) ?_)
    have hz3 := H2.out.2.1.row #[.int .i64 0, .int .i64 0, .bool false, .slice none 0 0, .bool false, .slice none 0 0]
    have hb3 := H2.out.2.2.1.trans ((Chg.setRow w1 (b0) #[.int .i64 0, .int .i64 0, .bool false, .slice none 0 0, .bool false, .slice none 0 0]).below H2.out.2.2.1.size fun k hk => by have hk : k = b0 := hk; have := H2.out.2.2.2; omega)
    refine bodyPost_ret (res_cell2 rfl _ _ (b0) _ _ rfl hz3 Try.underlying37 rfl cm.info_rec) rfl ?_
    refine ⟨⟨_, by rw [HX.out.1]; rfl, ?_⟩, hb3⟩
    rw [HX.out.2]
    exact cm.zero_v _
  | true =>
    by_cases q0 : n < 0
    · have d0 : decide (n < 0) = true := decide_eq_true q0
      have HX := Lib.hid (HM.out.1 (by rw [HM.out.2.2.1, decide_eq_false (p := 0 ≤ n) (by omega), Bool.and_false, Bool.false_and, Bool.false_and]))
      go_wp2_with (refine wpList_store_row rfl 37 (.tmp 6) (.tmp 27) rfl (b0) #[.int .i64 0, .int .i64 0, .bool false, .slice none 0 0, .bool false, .slice none 0 0] rfl rfl 37 _ H2.out.2.1 cm.info_rec rfl (by simp [Value.oneCell']) ?_)
      have hz3 := H2.out.2.1.row #[.int .i64 0, .int .i64 0, .bool false, .slice none 0 0, .bool false, .slice none 0 0]
      have hb3 := H2.out.2.2.1.trans ((Chg.setRow w1 (b0) #[.int .i64 0, .int .i64 0, .bool false, .slice none 0 0, .bool false, .slice none 0 0]).below H2.out.2.2.1.size fun k hk => by have hk : k = b0 := hk; have := H2.out.2.2.2; omega)
      refine bodyPost_ret (res_cell2 rfl _ _ (b0) _ _ rfl hz3 Try.underlying37 rfl cm.info_rec) rfl ?_
      refine ⟨⟨_, by rw [HX.out.1]; rfl, ?_⟩, hb3⟩
      rw [HX.out.2]
      exact cm.zero_v _
    have d0 : decide (n < 0) = false := decide_eq_false q0
    by_cases q1 : 1099511627776 < n
    · have d1 : decide (1099511627776 < n) = true := decide_eq_true q1
      have HX := Lib.hid (HM.out.1 (by rw [HM.out.2.2.1, decide_eq_false (p := n ≤ 1099511627776) (by omega), Bool.and_false, Bool.false_and]))
      go_wp2_with (refine wpList_store_row rfl 37 (.tmp 6) (.tmp 27) rfl (b0) #[.int .i64 0, .int .i64 0, .bool false, .slice none 0 0, .bool false, .slice none 0 0] rfl rfl 37 _ H2.out.2.1 cm.info_rec rfl (by simp [Value.oneCell']) ?_)
      have hz3 := H2.out.2.1.row #[.int .i64 0, .int .i64 0, .bool false, .slice none 0 0, .bool false, .slice none 0 0]
      have hb3 := H2.out.2.2.1.trans ((Chg.setRow w1 (b0) #[.int .i64 0, .int .i64 0, .bool false, .slice none 0 0, .bool false, .slice none 0 0]).below H2.out.2.2.1.size fun k hk => by have hk : k = b0 := hk; have := H2.out.2.2.2; omega)
      refine bodyPost_ret (res_cell2 rfl _ _ (b0) _ _ rfl hz3 Try.underlying37 rfl cm.info_rec) rfl ?_
      refine ⟨⟨_, by rw [HX.out.1]; rfl, ?_⟩, hb3⟩
      rw [HX.out.2]
      exact cm.zero_v _
    have d1 : decide (1099511627776 < n) = false := decide_eq_false q1
    by_cases q2 : now < 0
    · have d2 : decide (now < 0) = true := decide_eq_true q2
      have HX := Lib.hid (HM.out.1 (by rw [HM.out.2.2.1, decide_eq_false (p := 0 ≤ now) (by omega), Bool.false_and, Bool.and_false]))
      go_wp2_with (refine wpList_store_row rfl 37 (.tmp 6) (.tmp 27) rfl (b0) #[.int .i64 0, .int .i64 0, .bool false, .slice none 0 0, .bool false, .slice none 0 0] rfl rfl 37 _ H2.out.2.1 cm.info_rec rfl (by simp [Value.oneCell']) ?_)
      have hz3 := H2.out.2.1.row #[.int .i64 0, .int .i64 0, .bool false, .slice none 0 0, .bool false, .slice none 0 0]
      have hb3 := H2.out.2.2.1.trans ((Chg.setRow w1 (b0) #[.int .i64 0, .int .i64 0, .bool false, .slice none 0 0, .bool false, .slice none 0 0]).below H2.out.2.2.1.size fun k hk => by have hk : k = b0 := hk; have := H2.out.2.2.2; omega)
      refine bodyPost_ret (res_cell2 rfl _ _ (b0) _ _ rfl hz3 Try.underlying37 rfl cm.info_rec) rfl ?_
      refine ⟨⟨_, by rw [HX.out.1]; rfl, ?_⟩, hb3⟩
      rw [HX.out.2]
      exact cm.zero_v _
    have d2 : decide (now < 0) = false := decide_eq_false q2
    by_cases q3 : 1125899906842624 < now
    · have d3 : decide (1125899906842624 < now) = true := decide_eq_true q3
      have HX := Lib.hid (HM.out.1 (by rw [HM.out.2.2.1, decide_eq_false (p := now ≤ 1125899906842624) (by omega), Bool.and_false, Bool.and_false]))
      go_wp2_with (refine wpList_store_row rfl 37 (.tmp 6) (.tmp 27) rfl (b0) #[.int .i64 0, .int .i64 0, .bool false, .slice none 0 0, .bool false, .slice none 0 0] rfl rfl 37 _ H2.out.2.1 cm.info_rec rfl (by simp [Value.oneCell']) ?_)
      have hz3 := H2.out.2.1.row #[.int .i64 0, .int .i64 0, .bool false, .slice none 0 0, .bool false, .slice none 0 0]
      have hb3 := H2.out.2.2.1.trans ((Chg.setRow w1 (b0) #[.int .i64 0, .int .i64 0, .bool false, .slice none 0 0, .bool false, .slice none 0 0]).below H2.out.2.2.1.size fun k hk => by have hk : k = b0 := hk; have := H2.out.2.2.2; omega)
      refine bodyPost_ret (res_cell2 rfl _ _ (b0) _ _ rfl hz3 Try.underlying37 rfl cm.info_rec) rfl ?_
      refine ⟨⟨_, by rw [HX.out.1]; rfl, ?_⟩, hb3⟩
      rw [HX.out.2]
      exact cm.zero_v _
    have d3 : decide (1125899906842624 < now) = false := decide_eq_false q3
    have hm : cm.gmay g n now = true := by rw [HM.out.2.2.1, decide_eq_true (p := 0 ≤ n) (by omega), decide_eq_true (p := n ≤ 1099511627776) (by omega), decide_eq_true (p := 0 ≤ now) (by omega), decide_eq_true (p := now ≤ 1125899906842624) (by omega)]; rfl
    have HX := Lib.hid (And.intro (HM.out.2.1 hm) (HM.out.2.2.2 hm)); clear hm
    clear HM
    have hl : (cm.text ⟨#[103]⟩).length ≤ 11 ∧ (cm.text g).length ≤ 30 := by
      have h1 := HX.out.2.1
      have h3 := (cm.text_len g).2
      have h6 : (cm.text ⟨#[103]⟩).length ≤ 11 := (cm.text_len ⟨#[103]⟩).2
      omega
    have hT0 := fun wx => cm.acc_text ⟨#[103]⟩ wx (by decide)
    have hT1 := fun wx => cm.acc_text g wx (by have := HX.out.2.1; omega)
    have hT4 := fun wx => cm.acc_put n wx (by have := HX.out.2.2.1; omega) (by have := HX.out.2.2.2; omega)
    have hkk : cm.gkey g = cm.text ⟨#[103]⟩ ++ cm.text g := rfl
    have hkb : ∀ x ∈ cm.gkey g, x < 256 := cm.gkey_byte (by have := HX.out.2.1; omega)
    have hvb : ∀ x ∈ num.put n, x < 256 := num.put_byte n (by have := HX.out.2.2.1; omega) (by have := HX.out.2.2.2; omega)
    have hRX : R = 0 ∧ X = ⟨0, now, true, cm.gkey g, true, num.put n⟩ := HX.out.1
    clear HX
    obtain ⟨K, hK⟩ : ∃ K, K = cm.gkey g := ⟨_, rfl⟩
    rw [← hK] at hkk hkb hRX
    clear hK
    obtain ⟨x0, hx0⟩ : ∃ x, x = cm.text ⟨#[103]⟩ := ⟨_, rfl⟩
    obtain ⟨x1, hx1⟩ : ∃ x, x = cm.text g := ⟨_, rfl⟩
    obtain ⟨x4, hx4⟩ : ∃ x, x = num.put n := ⟨_, rfl⟩
    rw [← hx0] at hl hkk hT0
    rw [← hx1] at hl hkk hT1
    rw [← hx4] at hvb hT4 hRX
    have HT := Lib.hid (And.intro hT0 (And.intro hT1 hT4))
    have HL := Lib.hid (And.intro hl (And.intro hkk (And.intro hkb (And.intro hvb hRX))))
    clear hl hT0 hT1 hT4 hkk hkb hvb hRX hx0 hx1 hx4
    go_upto_region 3 with fail
    clear d0 d1 d2 d3 q0 q1 q2 q3
    go_wp2_with fail
    refine (HT.out.1 w1).mono ?_
    rintro en t0 ⟨A0, m0, c0, rfl, h0, -, -⟩
    have A0' := Lib.hid h0; clear h0
    go_wp2_with fail
    refine (HT.out.2.1 t0).mono ?_
    rintro en t1 ⟨A1, m1, c1, rfl, h1, hm1, hat1⟩
    have hA := A0'.out.keep h1.2
    have B1 := Lib.hid (And.intro hA (And.intro hm1 hat1)); clear hA hm1 hat1 h1 A0'
    go_wp2_with (at_builtin; go_loud (refine wpList_acc rfl (.tmp 29) (.tmp 31) rfl (.slice A0 m0 c0) x0 rfl B1.out.1 A1 m1 c1 x1 rfl B1.out.2.1.symm B1.out.2.2 (by have := HL.out.1; omega) ?_; intro v2 t2 h2; rw [← HL.out.2.1] at h2; obtain ⟨A6, c6, rfl, -, -⟩ := h2.at'; obtain ⟨m6, hm6⟩ : ∃ m, m = K.length := ⟨_, rfl⟩; rw [← hm6] at h2 ⊢; clear hm6; have B6 := Lib.hid h2; clear h2))
    go_wp2_with fail
    refine (HT.out.2.2 t2).mono ?_
    rintro en w4 ⟨Au, nu, cu, rfl, h4, hnu, hu⟩
    have hbk := cm.acc_bv (B6.out.keep h4.2) HL.out.2.2.1
    have hbu := cm.acc_bv h4 HL.out.2.2.2.1
    have hc4 : Chg w1 w4 (fun _ => False) := (chg_of B6.out.2).trans (chg_of h4.2) fun _ _ q => q
    have hz4 := hc4.blk H2.out.2.1 fun q => q
    have hb4 := H2.out.2.2.1.trans (hc4.below H2.out.2.2.1.size fun _ q => q.elim)
    have H4 := Lib.hid (And.intro hbk (And.intro hbu (And.intro hb4 hz4))); clear hu hb4 hz4 hbk hbu hc4 h4 hnu
    go_wp2_with (refine wpList_store_row rfl 37 (.tmp 6) (.tmp 35) rfl b0 #[.int .i64 0, .int .i64 now, .bool true, .slice A6 m6 c6, .bool true, .slice Au nu cu] rfl rfl 37 _ H4.out.2.2.2 cm.info_rec rfl (by simp [Value.oneCell']) ?_)
    have hfin := cm.rec_end (b0 := b0) (w := w) (X := X) H4.out.2.2.2 H4.out.1 H4.out.2.1 H4.out.2.2.1 (by have := H2.out.2.2.2; omega) 0 now true true HL.out.2.2.2.2.2
    refine bodyPost_ret (res_cell2 rfl _ _ b0 _ _ rfl hfin.1 Try.underlying37 rfl cm.info_rec) rfl ?_
    exact ⟨⟨_, by rw [HL.out.2.2.2.2.1]; rfl, hfin.2.1⟩, hfin.2.2⟩
end
end Go.Proofs.Ytkkpbnhagobhmaa

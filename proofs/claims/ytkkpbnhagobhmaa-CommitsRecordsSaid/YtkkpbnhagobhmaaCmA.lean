/- names.Topic, cordwainref1.Topic: what a name may be (chapters 8, 18). -/
import Derived.BigQuiet
import Derived.Test.YtkkpbnhagobhmaaConv
import Derived.Test.YtkkpbnhagobhmaaProg
namespace Go.Proofs.Ytkkpbnhagobhmaa
open Go.RowKit
set_option maxRecDepth 20000
def cm.letter (x : Nat) : Bool := (decide (97 ≤ x) && decide (x ≤ 122)) || (decide (48 ≤ x) && decide (x ≤ 57))
/-- A name that may be. -/
def cm.topic (s : ByteArray) : Bool := decide (1 ≤ s.size) && decide (s.size ≤ 20) && (strNats s).all cm.letter
theorem cm.digit_any (x : Nat) (w : World) (hx : x < 256) : Calls Try.prog 68 #[.int .u8 (x : Int)] w fun e w' => e = .returned (.bool (decide (48 ≤ x) && decide (x ≤ 57))) ∧ w = w' := by
  by_cases h1 : 48 ≤ x
  · have d1 : (48 : Int) ≤ (x : Int) := by omega
    by_cases h2 : x ≤ 57
    · have d2 : (x : Int) ≤ 57 := by omega
      rw [decide_eq_true h1, decide_eq_true h2]
      go_enter Try.func68, Try.ntmps68
      go_wp2
      go_ret
      exact ⟨rfl, rfl⟩
    · have d2 : ¬ (x : Int) ≤ 57 := by omega
      rw [decide_eq_true h1, decide_eq_false h2]
      go_enter Try.func68, Try.ntmps68
      go_wp2
      go_ret
      exact ⟨rfl, rfl⟩
  · have d1 : ¬ (48 : Int) ≤ (x : Int) := by omega
    rw [decide_eq_false h1]
    go_enter Try.func68, Try.ntmps68
    go_wp2
    go_ret
    exact ⟨rfl, rfl⟩
theorem cm.get (s : ByteArray) (j : Nat) (h : j < s.size) : (strNats s)[j]? = some (s[j]'h).toNat := by
  unfold strNats
  rw [List.getElem?_map]
  have h1 : s.data.toList[j]? = some (s[j]'h) := by
    rw [Array.getElem?_toList]
    exact Array.getElem?_eq_getElem h
  rw [h1]
  rfl
theorem cm.topic_size {s : ByteArray} (h : s.size < 1 ∨ 20 < s.size) : cm.topic s = false := by
  unfold cm.topic
  rcases h with h | h
  · rw [decide_eq_false (by omega)]; rfl
  · rw [decide_eq_false (p := s.size ≤ 20) (by omega), Bool.and_false]; rfl
theorem cm.topic_no {s : ByteArray} {j : Nat} (h : j < s.size) (hl : cm.letter (s[j]'h).toNat = false) : cm.topic s = false := by
  have h1 : (strNats s).all cm.letter = false := by
    rw [List.all_eq_false]
    exact ⟨_, List.mem_of_getElem? (cm.get s j h), by rw [hl]; simp⟩
  unfold cm.topic
  rw [h1, Bool.and_false]
theorem cm.topic_yes {s : ByteArray} (h1 : 1 ≤ s.size) (h2 : s.size ≤ 20) (h : ∀ x ∈ (strNats s).take s.size, cm.letter x = true) : cm.topic s = true := by
  have h3 : (strNats s).all cm.letter = true := by
    rw [List.all_eq_true]
    rw [← strNats_len s, List.take_length] at h
    exact h
  unfold cm.topic
  rw [h3, decide_eq_true h1, decide_eq_true h2]
  rfl
theorem cm.take_all {s : ByteArray} {j : Nat} (h : j < s.size) (hall : ∀ x ∈ (strNats s).take j, cm.letter x = true) (hl : cm.letter (s[j]'h).toNat = true) : ∀ x ∈ (strNats s).take (j + 1), cm.letter x = true := by
  intro x hx
  rw [List.take_add_one, cm.get s j h] at hx
  rcases List.mem_append.1 hx with h3 | h3
  · exact hall x h3
  · have : x = (s[j]'h).toNat := by simpa using h3
    rw [this]
    exact hl
set_option maxHeartbeats 2000000 in
theorem cm.topic_any (s : ByteArray) (w : World) (hs : s.size ≤ maxLen) : Calls Try.prog 54 #[.string s] w fun e w' => e = .returned (.bool (cm.topic s)) ∧ w = w' := by
  unfold maxLen at hs
  by_cases h1 : s.size < 1
  · rw [cm.topic_size (.inl h1)]
    have d1 : decide (s.size < 1) = true := decide_eq_true h1
    have d1' : decide ((s.size : Int) < 1) = true := decide_eq_true (by omega)
    go_enter Try.func54, Try.ntmps54
    go_wp2
    go_ret
    exact ⟨rfl, rfl⟩
  have d1 : decide (s.size < 1) = false := decide_eq_false h1
  have d1' : decide ((s.size : Int) < 1) = false := decide_eq_false (by omega)
  by_cases h2 : 20 < s.size
  · rw [cm.topic_size (.inr h2)]
    have d2 : decide (20 < s.size) = true := decide_eq_true h2
    have d2' : decide ((20 : Int) < (s.size : Int)) = true := decide_eq_true (by omega)
    go_enter Try.func54, Try.ntmps54
    go_wp2
    go_ret
    exact ⟨rfl, rfl⟩
  have d2 : decide (20 < s.size) = false := decide_eq_false h2
  have d2' : decide ((20 : Int) < (s.size : Int)) = false := decide_eq_false (by omega)
  have hyes := fun h => cm.topic_yes (s := s) (by omega) (by omega) h
  have hno := fun (j : Nat) (h : j < s.size) => cm.topic_no (s := s) h
  have htk := fun (j : Nat) (h : j < s.size) => cm.take_all (s := s) h
  obtain ⟨R, hR⟩ : ∃ R, R = cm.topic s := ⟨_, rfl⟩
  rw [← hR] at hyes hno ⊢
  have HH := Lib.hid (And.intro hyes (And.intro hno htk)); clear hyes hno htk hR
  go_enter Try.func54, Try.ntmps54
  go_wp2_with fail
  go_loopw [3, 14] (fun _ i wx => ∃ j : Nat, j ≤ s.size ∧ i = .int .i64 (j : Int) ∧ (∀ x ∈ (strNats s).take j, cm.letter x = true) ∧ w = wx) (fun _ i _ => s.size - (intOf i).toNat)
  case atStart => exact ⟨0, by omega, rfl, (fun x hx => by simp at hx), rfl⟩
  case round =>
    obtain ⟨j, hj, rfl, hall, rfl⟩ := hrel
    by_cases hlt : j < s.size
    · have hlt' : (j : Int) < (s.size : Int) := by omega
      have hx8 : (s[j]'hlt).toNat < 256 := UInt8.toNat_lt _
      have hdig := cm.digit_any (s[j]'hlt).toNat w hx8
      have HD := Lib.hid (And.intro hdig hall); clear hdig hall
      have hcase : (97 ≤ (s[j]'hlt).toNat ∧ (s[j]'hlt).toNat ≤ 122) ∨ (97 ≤ (s[j]'hlt).toNat ∧ 122 < (s[j]'hlt).toNat) ∨ ((s[j]'hlt).toNat < 97 ∧ 48 ≤ (s[j]'hlt).toNat ∧ (s[j]'hlt).toNat ≤ 57) ∨ ((s[j]'hlt).toNat < 97 ∧ ¬ (48 ≤ (s[j]'hlt).toNat ∧ (s[j]'hlt).toNat ≤ 57)) := by omega
      rcases hcase with ⟨e1, e2⟩ | ⟨e1, e2⟩ | ⟨e1, e2, e3⟩ | ⟨e1, e2⟩
      · have hl : cm.letter (s[j]'hlt).toNat = true := by unfold cm.letter; rw [decide_eq_true e1, decide_eq_true e2]; rfl
        have HA := Lib.hid (HH.out.2.2 j hlt HD.out.2 hl); clear hl
        have f1 : (97 : Int) ≤ ((s[j]'hlt).toNat : Int) := by omega
        have f2 : ((s[j]'hlt).toNat : Int) ≤ 122 := by omega
        go_wp2_with fail
        go_roundw
        case rel => exact ⟨j + 1, by omega, by go_num, HA.out, (by first | rfl | trivial)⟩
        case measure => simp [intOf]; omega
      · have hl : cm.letter (s[j]'hlt).toNat = false := by unfold cm.letter; rw [decide_eq_false (p := (s[j]'hlt).toNat ≤ 122) (by omega), decide_eq_false (p := (s[j]'hlt).toNat ≤ 57) (by omega)]; simp
        have HR := Lib.hid (HH.out.2.1 j hlt hl); clear hl
        have f1 : (97 : Int) ≤ ((s[j]'hlt).toNat : Int) := by omega
        have f2 : ¬ ((s[j]'hlt).toNat : Int) ≤ 122 := by omega
        have hd := HD.out.1
        rw [decide_eq_false (p := (s[j]'hlt).toNat ≤ 57) (by omega), Bool.and_false] at hd
        have HDD := Lib.hid hd; clear hd
        go_wp2_with (go_at_call 68; refine HDD.out.mono ?_; rintro en w2 ⟨rfl, h3⟩; subst h3)
        go_ret
        exact ⟨by rw [HR.out] <;> rfl, rfl⟩
      · have hl : cm.letter (s[j]'hlt).toNat = true := by unfold cm.letter; rw [decide_eq_true e2, decide_eq_true e3]; simp
        have HA := Lib.hid (HH.out.2.2 j hlt HD.out.2 hl); clear hl
        have f1 : ¬ (97 : Int) ≤ ((s[j]'hlt).toNat : Int) := by omega
        have hd := HD.out.1
        rw [decide_eq_true e2, decide_eq_true e3, Bool.and_true] at hd
        have HDD := Lib.hid hd; clear hd
        go_wp2_with (go_at_call 68; refine HDD.out.mono ?_; rintro en w2 ⟨rfl, h3⟩; subst h3)
        go_roundw
        case rel => exact ⟨j + 1, by omega, by go_num, HA.out, (by first | rfl | trivial)⟩
        case measure => simp [intOf]; omega
      · have hl : cm.letter (s[j]'hlt).toNat = false := by
          unfold cm.letter
          rw [decide_eq_false (p := 97 ≤ (s[j]'hlt).toNat) (by omega), Bool.false_and, Bool.false_or]
          by_cases h5 : 48 ≤ (s[j]'hlt).toNat
          · rw [decide_eq_false (p := (s[j]'hlt).toNat ≤ 57) (by omega), Bool.and_false]
          · rw [decide_eq_false h5, Bool.false_and]
        have hd0 : (decide (48 ≤ (s[j]'hlt).toNat) && decide ((s[j]'hlt).toNat ≤ 57)) = false := by
          by_cases h5 : 48 ≤ (s[j]'hlt).toNat
          · rw [decide_eq_false (p := (s[j]'hlt).toNat ≤ 57) (by omega), Bool.and_false]
          · rw [decide_eq_false h5, Bool.false_and]
        have HR := Lib.hid (HH.out.2.1 j hlt hl); clear hl
        have f1 : ¬ (97 : Int) ≤ ((s[j]'hlt).toNat : Int) := by omega
        have hd := HD.out.1
        rw [hd0] at hd
        have HDD := Lib.hid hd; clear hd hd0
        go_wp2_with (go_at_call 68; refine HDD.out.mono ?_; rintro en w2 ⟨rfl, h3⟩; subst h3)
        go_ret
        exact ⟨by rw [HR.out] <;> rfl, rfl⟩
    · obtain rfl : s.size = j := by omega
      have hlt' : ¬ (s.size : Int) < (s.size : Int) := by omega
      have HR := Lib.hid (HH.out.1 hall); clear hall hlt
      go_wp2_with fail
      go_ret
      exact ⟨by rw [HR.out] <;> rfl, rfl⟩
theorem cm.topic_eq (s : ByteArray) (h : ∀ x ∈ (strNats s).take s.size, cm.letter x = true) : cm.topic s = (decide (1 ≤ s.size) && decide (s.size ≤ 20)) := by
  have h3 : (strNats s).all cm.letter = true := by
    rw [List.all_eq_true]
    rw [← strNats_len s, List.take_length] at h
    exact h
  unfold cm.topic
  rw [h3, Bool.and_true]
set_option maxHeartbeats 2000000 in
theorem cm.reftopic_any (s : ByteArray) (w : World) (hs : s.size ≤ maxLen) : Calls Try.prog 29 #[.string s] w fun e w' => e = .returned (.bool (cm.topic s)) ∧ w = w' := by
  unfold maxLen at hs
  have hyes := fun h => cm.topic_eq s h
  have hno := fun (j : Nat) (h : j < s.size) => cm.topic_no (s := s) h
  have htk := fun (j : Nat) (h : j < s.size) => cm.take_all (s := s) h
  obtain ⟨R, hR⟩ : ∃ R, R = cm.topic s := ⟨_, rfl⟩
  rw [← hR] at hyes hno ⊢
  have HH := Lib.hid (And.intro hyes (And.intro hno htk)); clear hyes hno htk hR
  go_enter Try.func29, Try.ntmps29
  go_wp2_with fail
  go_loopw [3] (fun i wx => ∃ j : Nat, j ≤ s.size ∧ i = .int .i64 (j : Int) ∧ (∀ x ∈ (strNats s).take j, cm.letter x = true) ∧ w = wx) (fun i _ => s.size - (intOf i).toNat)
  case atStart => exact ⟨0, by omega, rfl, (fun x hx => by simp at hx), rfl⟩
  case round =>
    obtain ⟨j, hj, rfl, hall, rfl⟩ := hrel
    by_cases hlt : j < s.size
    · have hlt' : (j : Int) < (s.size : Int) := by omega
      have hx8 : (s[j]'hlt).toNat < 256 := UInt8.toNat_lt _
      have HD := Lib.hid hall; clear hall
      have hcase : (97 ≤ (s[j]'hlt).toNat ∧ (s[j]'hlt).toNat ≤ 122) ∨ (97 ≤ (s[j]'hlt).toNat ∧ 122 < (s[j]'hlt).toNat) ∨ ((s[j]'hlt).toNat < 97 ∧ 48 ≤ (s[j]'hlt).toNat ∧ (s[j]'hlt).toNat ≤ 57) ∨ ((s[j]'hlt).toNat < 97 ∧ 48 ≤ (s[j]'hlt).toNat ∧ 57 < (s[j]'hlt).toNat) ∨ ((s[j]'hlt).toNat < 97 ∧ (s[j]'hlt).toNat < 48) := by omega
      rcases hcase with ⟨e1, e2⟩ | ⟨e1, e2⟩ | ⟨e1, e2, e3⟩ | ⟨e1, e2, e3⟩ | ⟨e1, e2⟩
      · have hl : cm.letter (s[j]'hlt).toNat = true := by unfold cm.letter; rw [decide_eq_true e1, decide_eq_true e2]; rfl
        have HA := Lib.hid (HH.out.2.2 j hlt HD.out hl); clear hl
        have f1 : ¬ ((s[j]'hlt).toNat : Int) < 97 := by omega
        have f2 : ¬ (122 : Int) < ((s[j]'hlt).toNat : Int) := by omega
        go_wp2_with fail
        go_roundw
        case rel => exact ⟨j + 1, by omega, by go_num, HA.out, (by first | rfl | trivial)⟩
        case measure => simp [intOf]; omega
      · have hl : cm.letter (s[j]'hlt).toNat = false := by unfold cm.letter; rw [decide_eq_false (p := (s[j]'hlt).toNat ≤ 122) (by omega), decide_eq_false (p := (s[j]'hlt).toNat ≤ 57) (by omega)]; simp
        have HR := Lib.hid (HH.out.2.1 j hlt hl); clear hl
        have f1 : ¬ ((s[j]'hlt).toNat : Int) < 97 := by omega
        have f2 : (122 : Int) < ((s[j]'hlt).toNat : Int) := by omega
        have f3 : ¬ ((s[j]'hlt).toNat : Int) < 48 := by omega
        have f4 : (57 : Int) < ((s[j]'hlt).toNat : Int) := by omega
        go_wp2_with fail
        go_ret
        exact ⟨by rw [HR.out] <;> rfl, rfl⟩
      · have hl : cm.letter (s[j]'hlt).toNat = true := by unfold cm.letter; rw [decide_eq_true e2, decide_eq_true e3]; simp
        have HA := Lib.hid (HH.out.2.2 j hlt HD.out hl); clear hl
        have f1 : ((s[j]'hlt).toNat : Int) < 97 := by omega
        have f3 : ¬ ((s[j]'hlt).toNat : Int) < 48 := by omega
        have f4 : ¬ (57 : Int) < ((s[j]'hlt).toNat : Int) := by omega
        go_wp2_with fail
        go_roundw
        case rel => exact ⟨j + 1, by omega, by go_num, HA.out, (by first | rfl | trivial)⟩
        case measure => simp [intOf]; omega
      · have hl : cm.letter (s[j]'hlt).toNat = false := by
          unfold cm.letter
          rw [decide_eq_false (p := 97 ≤ (s[j]'hlt).toNat) (by omega), Bool.false_and, Bool.false_or, decide_eq_false (p := (s[j]'hlt).toNat ≤ 57) (by omega), Bool.and_false]
        have HR := Lib.hid (HH.out.2.1 j hlt hl); clear hl
        have f1 : ((s[j]'hlt).toNat : Int) < 97 := by omega
        have f3 : ¬ ((s[j]'hlt).toNat : Int) < 48 := by omega
        have f4 : (57 : Int) < ((s[j]'hlt).toNat : Int) := by omega
        go_wp2_with fail
        go_ret
        exact ⟨by rw [HR.out] <;> rfl, rfl⟩
      · have hl : cm.letter (s[j]'hlt).toNat = false := by
          unfold cm.letter
          rw [decide_eq_false (p := 97 ≤ (s[j]'hlt).toNat) (by omega), Bool.false_and, Bool.false_or, decide_eq_false (p := 48 ≤ (s[j]'hlt).toNat) (by omega), Bool.false_and]
        have HR := Lib.hid (HH.out.2.1 j hlt hl); clear hl
        have f1 : ((s[j]'hlt).toNat : Int) < 97 := by omega
        have f3 : ((s[j]'hlt).toNat : Int) < 48 := by omega
        go_wp2_with fail
        go_ret
        exact ⟨by rw [HR.out] <;> rfl, rfl⟩
    · obtain rfl : s.size = j := by omega
      have hlt' : ¬ (s.size : Int) < (s.size : Int) := by omega
      have hR := HH.out.1 hall
      clear hall hlt
      by_cases h1 : 1 ≤ s.size
      · have f1 : (1 : Int) ≤ (s.size : Int) := by omega
        by_cases h2 : s.size ≤ 20
        · have f2 : (s.size : Int) ≤ 20 := by omega
          rw [decide_eq_true h1, decide_eq_true h2] at hR
          have HR := Lib.hid hR; clear hR
          go_wp2_with fail
          go_ret
          exact ⟨by rw [HR.out] <;> rfl, rfl⟩
        · have f2 : ¬ (s.size : Int) ≤ 20 := by omega
          rw [decide_eq_true h1, decide_eq_false h2] at hR
          have HR := Lib.hid hR; clear hR
          go_wp2_with fail
          go_ret
          exact ⟨by rw [HR.out] <;> rfl, rfl⟩
      · have f1 : ¬ (1 : Int) ≤ (s.size : Int) := by omega
        rw [decide_eq_false h1, Bool.false_and] at hR
        have HR := Lib.hid hR; clear hR
        go_wp2_with fail
        go_ret
        exact ⟨by rw [HR.out] <;> rfl, rfl⟩
end Go.Proofs.Ytkkpbnhagobhmaa

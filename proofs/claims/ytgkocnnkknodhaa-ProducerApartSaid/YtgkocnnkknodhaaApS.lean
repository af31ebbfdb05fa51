/- The law package of producer: small. -/
import Derived.Test.YtgkocnnkknodhaaBatW
namespace Go.Proofs.Ytgkocnnkknodhaa
open Go.RowKit

set_option maxRecDepth 20000 in
set_option maxHeartbeats 2000000 in
theorem prod.small_any (A : Option Addr) (bs : List Bat) (c : Nat) (w : World) (hat : BatsAt w A bs) (hlen : bs.length ≤ maxLen) :
    Calls Try.prog 38 #[.slice A bs.length c] w fun e w' => (∃ b : Bool, e = .returned (.bool b) ∧ (b = true → bs.length ≤ 80 ∧ ∀ x ∈ bs, 0 ≤ x.seq ∧ x.seq ≤ 1099511627776 ∧ x.recs.length ≤ 4000)) ∧ Below w.heap.size w w' := by
  have HAT := Lib.hid hat; clear hat
  have HLEN := Lib.hid hlen
  unfold maxLen at hlen
  go_enter Try.func38, Try.ntmps38
  go_wp2_with fail
  go_loopw [3] (fun i wr => ∃ j : Nat, j ≤ bs.length ∧ i = .int .i64 (j : Int) ∧ (∀ x ∈ bs.take j, 0 ≤ x.seq ∧ x.seq ≤ 1099511627776) ∧ wr = w) (fun i _ => bs.length - (intOf i).toNat)
  case atStart => exact ⟨0, by omega, rfl, fun x hx => by simp at hx, rfl⟩
  case round =>
    obtain ⟨j, hj, rfl, hle, rfl⟩ := hrel
    have HLE := Lib.hid hle; clear hle
    by_cases hlt : j < bs.length ∧ j ≤ 80
    · obtain ⟨hlt, h80⟩ := hlt
      obtain ⟨x, hx⟩ : ∃ x, bs[j]? = some x := ⟨_, List.getElem?_eq_getElem hlt⟩
      obtain ⟨p, off, v, rfl, hp, -, -, -, -, d4, -⟩ := HAT.out.at' hx
      have HX := Lib.hid hx; clear hx
      rcases (show 1099511627776 < x.seq ∨ (x.seq ≤ 1099511627776 ∧ x.seq < 0) ∨ (x.seq ≤ 1099511627776 ∧ 0 ≤ x.seq) by omega) with h | ⟨h, h'⟩ | ⟨h, h'⟩
      · go_wp2
        go_ret
        exact ⟨⟨false, rfl, fun h => by cases h⟩, Below.refl _ _⟩
      · go_wp2
        go_ret
        exact ⟨⟨false, rfl, fun h => by cases h⟩, Below.refl _ _⟩
      · go_wp2
        go_roundw
        case rel =>
          refine ⟨j + 1, by omega, by go_num, fun b hb => ?_, trivial⟩
          obtain ⟨hjl, hjx⟩ := List.getElem?_eq_some_iff.1 HX.out
          rw [List.take_succ_eq_append_getElem hjl, hjx] at hb
          rcases List.mem_append.1 hb with hh | hh
          · exact HLE.out b hh
          · obtain rfl := List.mem_singleton.1 hh
            exact ⟨h', h⟩
        case measure => simp [intOf]; omega
    · by_cases h80 : bs.length ≤ 80
      · obtain rfl : j = bs.length := by omega
        clear hlt
        go_wp2_with fail
        refine (alike.batches_any A bs c 4000 wr HAT.out HLEN.out ⟨by omega, by omega⟩).mono ?_
        rintro e w2 ⟨⟨n, rfl, hn⟩, hb2⟩
        have HB2 := Lib.hid hb2; clear hb2
        have HN := Lib.hid hn; clear hn
        go_wp2
        go_ret
        refine ⟨⟨decide (n ≤ 4000), rfl, fun h4 => ⟨h80, fun x hx => ?_⟩⟩, HB2.out⟩
        have h4 : n ≤ 4000 := by simpa using h4
        have h1 := HLE.out x (by rw [List.take_length]; exact hx)
        have h2 := Bat.weight_small (HN.out h4 x hx) (by omega)
        exact ⟨h1.1, h1.2, by omega⟩
      · have hlt2 : (j < bs.length ∧ 80 < j) ∨ j = bs.length := by omega
        have h81 : 80 < bs.length := by omega
        rcases hlt2 with ⟨h1, h2⟩ | rfl
        all_goals
          clear hlt
          go_wp2
          go_ret
          exact ⟨rfl, Below.refl _ _⟩
end Go.Proofs.Ytgkocnnkknodhaa

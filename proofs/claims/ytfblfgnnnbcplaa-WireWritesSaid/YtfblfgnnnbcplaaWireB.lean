/- The walk of the law WireWrites: it answers true, whatever the input. -/
import Derived.Test.YtfblfgnnnbcplaaWireM
namespace Go.Proofs.Ytfblfgnnnbcplaa
open Go.RowKit

set_option maxRecDepth 20000 in
set_option maxHeartbeats 1000000 in
theorem wire.lawWrites (A : Option Addr) (n c : Nat) (xs : List Item) (w : World) (hl : xs.length = n ∧ n ≤ c ∧ c ≤ maxLen) (hit : Items w A xs) :
    Calls Try.prog 5 #[.slice A n c] w fun e w' => e = .returned (.bool true) ∧ Below w.heap.size w w' := by
  obtain ⟨hl, hnc, hcm⟩ := hl
  have HIT := Lib.hid hit; clear hit
  have HL := Lib.hid hl; clear hl
  go_enter Try.func5, Try.ntmps5
  go_wp2_with fail
  refine (wire.small_any A n c xs w HL.out (by omega) HIT.out).mono ?_
  rintro e w1 ⟨⟨sm, rfl, htot⟩, hb1⟩
  have HIT1 := Lib.hid (HIT.out.below hb1 (Nat.le_refl _))
  have HB1 := Lib.hid hb1; clear hb1
  cases sm
  · clear htot
    go_wp2_with fail
    refine (wire.awake_any w1).mono ?_
    rintro e w2 ⟨rfl, hb2⟩
    have HB2 := Lib.hid (HB1.out.trans (hb2.mono HB1.out.size)); clear hb2
    go_wp2
    go_ret
    exact ⟨rfl, HB2.out⟩
  · have htot' : total xs ≤ 1000 := htot rfl
    clear htot
    go_wp2_with fail
    refine (wire.written_any A n c xs w1 HL.out HIT1.out htot').mono ?_
    rintro e w2 ⟨⟨v1, rfl, hbad1, hok1⟩, hb2⟩
    have HIT2 := Lib.hid (HIT1.out.below hb2 (Nat.le_refl _))
    have HBAD1 := Lib.hid hbad1; clear hbad1
    have HOK1 := Lib.hid hok1; clear hok1
    have HB2 := Lib.hid (HB1.out.trans (hb2.mono HB1.out.size)); clear hb2
    go_wp2_with fail
    refine (wire.made_any A n c xs w2 HL.out HIT2.out htot').mono ?_
    rintro e w3 ⟨⟨v2, rfl, hbad2, hok2⟩, hb3⟩
    have HBAD2 := Lib.hid hbad2; clear hbad2
    have HOK2 := Lib.hid hok2; clear hok2
    have HB3' := Lib.hid hb3
    have HB3 := Lib.hid (HB2.out.trans (hb3.mono HB2.out.size)); clear hb3
    obtain ⟨A1, n1, c1, A2, n2, c2, e1, e2, hs1, hs2⟩ : ∃ A1 n1 c1 A2 n2 c2, v1 = .slice A1 n1 c1 ∧ v2 = .slice A2 n2 c2 ∧ (convert 23 9 (.slice A1 n1 c1)).run Try.prog w3 = .ok (.string (strOf (if (wrAll xs).2 then [] else (wrAll xs).1))) w3 ∧
        (convert 23 9 (.slice A2 n2 c2)).run Try.prog w3 = .ok (.string (strOf (if (wrAll xs).2 then [] else (wrAll xs).1))) w3 := by
      cases hq : (wrAll xs).2
      · obtain ⟨A1, c1, rfl, _, hl1, h1⟩ := own_bytes (own_below (HOK1.out hq) HB3'.out)
        obtain ⟨A2, c2, rfl, _, hl2, h2⟩ := own_bytes (HOK2.out hq)
        exact ⟨A1, _, c1, A2, _, c2, rfl, rfl, conv_any Try.underlying23 Try.underlying5 Try.underlying9 _ rfl h1, conv_any Try.underlying23 Try.underlying5 Try.underlying9 _ rfl h2⟩
      · exact ⟨none, 0, 0, none, 0, 0, HBAD1.out hq, HBAD2.out hq, conv_any Try.underlying23 Try.underlying5 Try.underlying9 [] rfl (At.none0 rfl), conv_any Try.underlying23 Try.underlying5 Try.underlying9 [] rfl (At.none0 rfl)⟩
    subst e1
    subst e2
    generalize strOf (if (wrAll xs).2 then [] else (wrAll xs).1) = s at hs1 hs2
    generalize (!(wrAll xs).2) = ok
    go_wp2_with fail
    refine (wire.done_nil w3).mono ?_
    rintro e w' ⟨rfl, rfl⟩
    go_wp2_with fail
    refine (wire.num_nil 1 w3).mono ?_
    rintro e w' ⟨rfl, rfl⟩
    go_wp2_with fail
    refine (wire.awake_any w3).mono ?_
    rintro e w4 ⟨rfl, hb4⟩
    have HB4 := Lib.hid (HB3.out.trans (hb4.mono HB3.out.size)); clear hb4
    go_wp2
    go_ret
    exact ⟨rfl, HB4.out⟩
end Go.Proofs.Ytfblfgnnnbcplaa

/- The reference of chapter 3 (cordwainref1): Fixed, Text. -/
import Derived.Test.YtkkpbnhagobhmaaByte
import Derived.Test.YtkkpbnhagobhmaaRefN
import Derived.Test.YtkkpbnhagobhmaaWrX
import Derived.Test.YtkkpbnhagobhmaaConv
import Derived.OwnWalk
import Derived.Test.YtkkpbnhagobhmaaRefB
namespace Go.Proofs.Ytkkpbnhagobhmaa
open Go.RowKit

set_option maxRecDepth 20000 in
set_option maxHeartbeats 800000 in
theorem wire.reftext_any (s : ByteArray) (w : World) (hs : s.size ≤ 70368744177664) :
    Calls Try.prog 46 #[.string s] w fun e w' => (∃ v, e = .returned v ∧ w'.ownsRow w.heap.size 5 1 v (num.put s.size ++ strNats s).length (u8s (num.put s.size ++ strNats s))) ∧ Below w.heap.size w w' := by
  obtain ⟨i0, hi, hz0, hz1, hz2⟩ := info_parts infoByte
  have hpb := num.put_bd (s.size : Int)
  go_enter Try.func46, Try.ntmps46
  go_wp2_with fail
  refine (num.refput_any s.size w (by omega) (by omega)).mono ?_
  rintro e w1 ⟨⟨v1, rfl, hown⟩, hb⟩
  have HO := Lib.hid hown; clear hown
  have HB := Lib.hid hb; clear hb
  go_wp2_with (at_builtin; refine wpList_str2 _ rfl (.tmp 5) (.tmp 6) 35 9 rfl w.heap.size 5 i0 Try.underlying35 Try.underlying9 hi hz0 hz1 hz2 _ (num.put s.size).length (u8s (num.put s.size)) rfl HO.out s rfl (by unfold maxLen; omega) (by omega) HB.out.size ?_; intro v' w2 hown2 hg2 hl2)
  rw [strCells_u8s, ← u8s_append, ← strNats_len, ← List.length_append] at hown2
  have hb2 : Below w.heap.size w w2 := HB.out.grown hg2 HB.out.size (fun g hg => (HO.out.lt g hg).1)
  rw [strNats_len] at hown2
  have HO2 := Lib.hid hown2; clear hown2
  have HB2 := Lib.hid hb2; clear hb2 hg2 hl2
  go_wp2
  go_ret
  exact ⟨⟨_, rfl, HO2.out⟩, HB2.out⟩
end Go.Proofs.Ytkkpbnhagobhmaa

/- The walk of a map of keys (keymap.All). -/
import Derived.Test.YtbbekgliaedigaaKyL
import Derived.Test.YtbbekgliaedigaaMapP
import Derived.Test.YtbbekgliaedigaaKeyA
namespace Go.Proofs.Ytbbekgliaedigaa
open Go.RowKit Go.Maps
set_option maxRecDepth 20000

/-- []byte(s): a block of bytes of its own. -/
theorem ky.conv (w : World) (s : ByteArray) (o : Int) :
    ∃ A c w1, (convert 9 23 (.string s)).run Try.prog w = .ok (.slice A s.size c) w1 ∧ ky.R ((strNats s, o), (A, c)) w1 ∧ Below w.heap.size w w1 := by
  refine ⟨_, _, _, Lib.run_convert_string_bytes w 9 23 5 s Try.underlying9 Try.underlying23 Try.underlying5, fun hn => ⟨w.heap.size, _, _, rfl, Lib.bytesWorld_at_new w 5 s, fun j hj => ?_⟩, ⟨rfl, rfl, rfl, by rw [Lib.bytesWorld_size]; omega, fun k hk => Lib.bytesWorld_at_old w 5 s k hk⟩⟩
  have hj' : j < s.data.toList.length := by have := hj; dsimp only at this; rw [strNats_len] at this; simpa using this
  have h := Lib.bytesWorld_cell w 5 s j (by simpa using hj')
  have hb := Lib.bytesWorld_at_new w 5 s
  simp only [World.cell?, hb] at h
  show (Lib.bytesCells w 5 s)[j]? = some (byteAt (strNats s) j)
  unfold byteAt strNats
  rw [show (Lib.bytesCells w 5 s)[j]? = _ from h]
  simp [List.getD, List.getElem?_map, List.getElem?_eq_getElem hj']

/-- The pairs of a walk: keys in rising order, and what they have. -/
def ky.pairs (ks : List ByteArray) (g : ByteArray → Option Int) : List (List Nat × Int) := ks.map fun s => (strNats s, (g s).getD 0)
/-- Where the walk reads. -/
structure KSrc (Bp p b N : Nat) (most : Int) (g : ByteArray → Option Int) (W : World) : Prop where
  box : Blk W Bp 28 #[.pointer (some ⟨p, 0, none⟩)]
  km : KM W p b most N g
theorem KSrc.keep {Bp p b N : Nat} {most : Int} {g : ByteArray → Option Int} {W V : World} (h : KSrc Bp p b N most g W) (hk : KKp b W V) : KSrc Bp p b N most g V :=
  ⟨hk.2.1 _ _ _ _ h.box (.inl rfl), ⟨hk.2.1 _ _ _ _ h.km.blk (.inr (.inl rfl)), h.km.map.of_block (hk.2.2 h.km.map.lt)⟩⟩
end Go.Proofs.Ytbbekgliaedigaa

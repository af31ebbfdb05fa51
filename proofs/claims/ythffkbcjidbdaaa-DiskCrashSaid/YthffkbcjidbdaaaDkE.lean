/- A disk's New, Size and Read; come, of a disk. -/
import Derived.Test.YthffkbcjidbdaaaDkX
import Derived.Test.YthffkbcjidbdaaaClone
namespace Go.Proofs.Ythffkbcjidbdaaa
open Go.RowKit Go.Maps
set_option maxRecDepth 100000

theorem disk.New_bad (room : Int) (w : World) (h : ¬ (0 ≤ room ∧ room ≤ 1099511627776)) : Calls Try.prog 12 #[.int .i64 room] w fun e w' => e = .returned (.tuple #[.pointer none, .int .i64 1]) ∧ w = w' := by
  go_enter Try.func12, Try.ntmps12
  by_cases h0 : room < 0
  · have h1 : decide (room < 0) = true := decide_eq_true h0
    go_wp2_with fail
    go_ret2
    exact ⟨rfl, rfl⟩
  · have h1 : decide (room < 0) = false := decide_eq_false h0
    have h2 : decide (1099511627776 < room) = true := decide_eq_true (by omega)
    go_wp2_with fail
    go_ret2
    exact ⟨rfl, rfl⟩
theorem disk.New_any (room : Int) (w : World) (h : 0 ≤ room ∧ room ≤ 1099511627776) : Calls Try.prog 12 #[.int .i64 room] w fun e w' => ∃ p, e = .returned (.tuple #[.pointer (some ⟨p, 0, none⟩), .int .i64 0]) ∧ DskIn w' p (Dsk.new room) (dk.fresh w w') 0 ∧ Below w.heap.size w w' := by
  have hcall := disk.empty_any room w
  have HC := Lib.hid hcall; clear hcall
  have h1 : decide (room < 0) = false := decide_eq_false (by omega)
  have h2 : decide (1099511627776 < room) = false := decide_eq_false (by omega)
  go_enter Try.func12, Try.ntmps12
  go_wp2_with (go_at_call 34; refine HC.out.mono ?_; rintro e w1 ⟨p, rfl, ⟨S0, b0, b1, dat0, h3⟩, h4⟩; have H3 := Lib.hid (And.intro h3 h4); clear h3 h4)
  go_ret2
  exact ⟨p, rfl, ⟨S0, b0, b1, _, dat0, H3.out.1⟩, H3.out.2⟩

theorem dk.zeroF (w : World) : (zeroValue 79).run Try.prog w = .ok (.pointer none) w := by rfl
theorem dk.getD (o : Option Nat) : (o.map dk.ptr).getD (.pointer none) = dk.opt o := by cases o <;> rfl
/-- What a name leads to. -/
theorem NamesAt.look {w : World} {b m : Nat} {l : DNames} (h : NamesAt w b l m) (s : ByteArray) (hs : s.size ≤ maxLen) :
    (Instr.lookup 80 (.map (some b)) (.string s) false).run Try.prog w = .ok (dk.opt (l s)) w := by
  obtain ⟨N, -, hg⟩ := h
  have := hg.look1 Try.underlying80 (dk.zeroF w) s hs
  rw [dk.getD] at this
  exact this

/-- A file's size, or -1. -/
def Dsk.size (D : Dsk) (s : ByteArray) : Int := match D.now s with | Option.none => -1 | some f => ((D.file f).data.length : Int)
theorem disk.Size_nil (s : ByteArray) (w : World) : Calls Try.prog 19 #[.pointer none, .string s] w fun e w' => e = .returned (.int .i64 (-1)) ∧ w = w' := by
  go_enter Try.func19, Try.ntmps19
  go_wp2_with fail
  go_ret
  exact ⟨rfl, rfl⟩
set_option maxHeartbeats 1000000 in
theorem disk.Size_any (s : ByteArray) (p : Nat) (D : Dsk) (F : Nat → Prop) (m : Nat) (w : World) (h : DskIn w p D F m) (hs : s.size ≤ maxLen) : Calls Try.prog 19 #[.pointer (some ⟨p, 0, none⟩), .string s] w fun e w' => e = .returned (.int .i64 (D.size s)) ∧ Below w.heap.size w w' ∧ w'.heap.size = w.heap.size := by
  obtain ⟨S, bn, bs, sv, dat, h⟩ := h
  have hk := h.now.look s hs
  have k6 := h.blk.cell 6 (v := .map (some bn)) rfl
  have hpl := h.blk.lt
  obtain ⟨z, hz⟩ : ∃ z, z = D.size s := ⟨_, rfl⟩
  rw [← hz]
  unfold Dsk.size at hz
  cases hf : D.now s with
  | none =>
    rw [hf] at hk hz
    replace hk : (Instr.lookup 80 (.map (some bn)) (.string s) false).run Try.prog w = .ok (.pointer none) w := hk
    have HZ := Lib.hid (show z = -1 from hz); clear hz h hf
    go_enter Try.func19, Try.ntmps19
    go_wp2_with fail
    go_ret
    exact ⟨by rw [HZ.out]; rfl, Below.refl _ _, rfl⟩
  | some f =>
    rw [hf] at hk hz
    replace hk : (Instr.lookup 80 (.map (some bn)) (.string s) false).run Try.prog w = .ok (.pointer (some ⟨f, 0, none⟩)) w := hk
    have hfile := h.file f (h.has f (.inl ⟨s, hf⟩))
    obtain ⟨A, c, hA, -⟩ := own_at hfile.2.1
    have d0 := hfile.1.cell 0 (v := dat f) rfl
    rw [hA] at d0
    have hfl := hfile.1.lt
    have HZ := Lib.hid (show z = ((D.file f).data.length : Int) from hz); clear hz h hf hfile hA
    go_enter Try.func19, Try.ntmps19
    go_wp2_with fail
    go_ret
    exact ⟨by rw [HZ.out]; rfl, Below.refl _ _, rfl⟩

/-- A file's bytes. -/
def Dsk.bytes (D : Dsk) (s : ByteArray) : List Nat := match D.now s with | Option.none => [] | some f => (D.file f).data
def Dsk.readE (D : Dsk) (s : ByteArray) : Int := match D.now s with | Option.none => 5 | some _ => 0
theorem disk.Read_nil (s : ByteArray) (w : World) : Calls Try.prog 16 #[.pointer none, .string s] w fun e w' => e = .returned (.tuple #[.slice none 0 0, .int .i64 5]) ∧ w = w' := by
  go_enter Try.func16, Try.ntmps16
  go_wp2_with fail
  go_ret2
  exact ⟨rfl, rfl⟩
set_option maxHeartbeats 1000000 in
theorem disk.Read_any (s : ByteArray) (p : Nat) (D : Dsk) (F : Nat → Prop) (m : Nat) (w : World) (h : DskIn w p D F m) (hs : s.size ≤ maxLen) (hl : (D.bytes s).length ≤ 140737488351232) : Calls Try.prog 16 #[.pointer (some ⟨p, 0, none⟩), .string s] w fun e w' => ∃ v, e = .returned (.tuple #[v, .int .i64 (D.readE s)]) ∧ w'.ownsRow w.heap.size 5 1 v (D.bytes s).length (u8s (D.bytes s)) ∧ Below w.heap.size w w' := by
  obtain ⟨S, bn, bs, sv, dat, h⟩ := h
  have hk := h.now.look s hs
  have k6 := h.blk.cell 6 (v := .map (some bn)) rfl
  have hpl := h.blk.lt
  obtain ⟨z, hz⟩ : ∃ z, z = D.readE s := ⟨_, rfl⟩
  obtain ⟨L, hL⟩ : ∃ L, L = D.bytes s := ⟨_, rfl⟩
  rw [← hz, ← hL]
  rw [← hL] at hl
  unfold Dsk.readE at hz
  unfold Dsk.bytes at hL
  cases hf : D.now s with
  | none =>
    rw [hf] at hk hz hL
    replace hk : (Instr.lookup 80 (.map (some bn)) (.string s) false).run Try.prog w = .ok (.pointer none) w := hk
    have HZ := Lib.hid (And.intro (show z = 5 from hz) (show L = [] from hL)); clear hz h hf hL
    go_enter Try.func16, Try.ntmps16
    go_wp2_with fail
    go_ret2
    exact ⟨_, by rw [HZ.out.1]; rfl, by rw [HZ.out.2]; exact World.ownsRow_nil _ _ _ _, Below.refl _ _⟩
  | some f =>
    rw [hf] at hk hz hL
    replace hk : (Instr.lookup 80 (.map (some bn)) (.string s) false).run Try.prog w = .ok (.pointer (some ⟨f, 0, none⟩)) w := hk
    have hfile := h.file f (h.has f (.inl ⟨s, hf⟩))
    obtain ⟨A, c, hA, -, -, hat⟩ := own_bytes hfile.2.1
    have d0 := hfile.1.cell 0 (v := dat f) rfl
    rw [hA] at d0
    have hfl := hfile.1.lt
    replace hL : L = (D.file f).data := hL
    rw [← hL] at d0 hat
    have hcall := clone_any A L.length c L w rfl hl hat
    have HC := Lib.hid hcall
    have HZ := Lib.hid (show z = 0 from hz); clear hz h hf hfile hA hcall hat hL
    go_enter Try.func16, Try.ntmps16
    go_wp2_with (go_at_call 44; refine HC.out.mono ?_; rintro e w1 ⟨⟨v, rfl, h3⟩, h4⟩; have H3 := Lib.hid (And.intro h3 h4); clear h3 h4)
    go_ret2
    exact ⟨v, by rw [HZ.out]; rfl, H3.out.1, H3.out.2⟩
end Go.Proofs.Ythffkbcjidbdaaa

/- batch: the bytes of a batch; contract of writeField. -/
import Derived.Test.YtndingohckcmdaaBtD
import Derived.Test.YtndingohckcmdaaWrL
import Derived.Test.YtndingohckcmdaaCrcB
import Derived.Test.YtndingohckcmdaaNumP
namespace Go.Proofs.Ytndingohckcmdaa
open Go.RowKit

def bat.field (has : Bool) (L : List Nat) : List Nat := if has then num.put L.length ++ L else num.put (-1)
def Rec.bytes (first base : Int) (r : Rec) : List Nat := num.put (r.body first base) ++ num.put (r.time - first) ++ num.put (r.off - base) ++ bat.field r.hasKey r.key ++ bat.field r.hasVal r.val
def Bat.head (b : Bat) : List Nat := wire.be (b.last - b.base).toNat 8 ++ wire.be (Bat.first b.recs).toNat 8 ++ wire.be b.prod.toNat 8 ++ wire.be b.epoch.toNat 2 ++ wire.be b.seq.toNat 4 ++ wire.be b.recs.length 4
def Bat.body (b : Bat) (k : Nat) : List Nat := b.head ++ ((b.recs.take k).map (Rec.bytes (Bat.first b.recs) b.base)).flatten
def Bat.summed (b : Bat) : List Nat := b.body b.recs.length
def Bat.front (b : Bat) : List Nat := wire.be b.base.toNat 8 ++ wire.be (4 + b.summed.length) 4 ++ wire.be (crc.more 0 b.summed) 4
def Bat.bytes (b : Bat) : List Nat := b.front ++ b.summed

theorem bat.field_le (has : Bool) (L : List Nat) : (bat.field has L).length ≤ 10 + L.length := by
  unfold bat.field
  split
  · have := num.put_bd (L.length : Int); rw [List.length_append]; omega
  · have := num.put_bd (-1); omega
theorem Rec.bytes_le {r : Rec} (h : r.ok) (first base : Int) : (r.bytes first base).length ≤ 2250 := by
  obtain ⟨-, -, -, -, h5, h6⟩ := h
  unfold Rec.bytes
  simp only [List.length_append]
  have a1 := num.put_bd (r.body first base)
  have a2 := num.put_bd (r.time - first)
  have a3 := num.put_bd (r.off - base)
  have a4 := bat.field_le r.hasKey r.key
  have a5 := bat.field_le r.hasVal r.val
  omega
theorem Bat.head_len (b : Bat) : b.head.length = 34 := by
  unfold Bat.head
  simp only [List.length_append, wire.be_len]
theorem Bat.flat_le (first base : Int) (rs : List Rec) (h : ∀ r ∈ rs, r.ok) : ((rs.map (Rec.bytes first base)).flatten).length ≤ 2250 * rs.length := by
  induction rs with
  | nil => simp
  | cons r rs ih =>
    have := ih fun x hx => h x (List.mem_cons_of_mem _ hx)
    have h1 := Rec.bytes_le (h r (List.mem_cons_self ..)) first base
    simp only [List.map_cons, List.flatten_cons, List.length_append, List.length_cons]
    omega
theorem Bat.body_le (b : Bat) (h : ∀ r ∈ b.recs, r.ok) (hl : b.recs.length ≤ 100) (k : Nat) : (b.body k).length ≤ 225034 := by
  have h1 := Bat.flat_le (Bat.first b.recs) b.base (b.recs.take k) fun r hr => h r (List.mem_of_mem_take hr)
  have h2 := b.head_len
  unfold Bat.body
  rw [List.length_append, h2]
  rw [List.length_take] at h1
  omega
theorem Bat.body_succ (b : Bat) (k : Nat) (r : Rec) (h : b.recs[k]? = some r) : b.body (k + 1) = b.body k ++ r.bytes (Bat.first b.recs) b.base := by
  obtain ⟨hk, rfl⟩ := List.getElem?_eq_some_iff.1 h
  unfold Bat.body
  rw [List.take_succ_eq_append_getElem hk, List.map_append, List.flatten_append]
  simp
theorem bat.field_byte {has : Bool} {L : List Nat} (h : ∀ x ∈ L, x < 256) (hl : L.length ≤ 1000000) : ∀ x ∈ bat.field has L, x < 256 := by
  unfold bat.field
  split
  · intro x hx
    rcases List.mem_append.1 hx with q | q
    · exact num.put_byte _ (by omega) (by omega) x q
    · exact h x q
  · exact fun x hx => num.put_byte _ (by decide) (by decide) x hx

set_option maxHeartbeats 1000000 in
theorem bat.field_any {w9 w : World} {B p : Nat} {N : Nat → Prop} {L : List Nat} (h : WrN w9 B p N L w) (has : Bool) (X : Option Addr) (c : Nat) (M : List Nat) (hL : L.length + M.length ≤ 70368744176000) (hat : At w X M.length (byteAt M)) (hx : 0 < M.length → ∀ b off, X = some ⟨b, off, none⟩ → b < B) :
    Calls Try.prog 38 #[.pointer (some ⟨p, 0, none⟩), .bool has, .slice X M.length c] w fun e w' => e = .returned (.tuple #[]) ∧ WrN w9 B p N (L ++ bat.field has M) w' := by
  have H := Lib.hid h; clear h
  have HAT := Lib.hid (And.intro hat hx); clear hat hx
  have hf1 : bat.field true M = num.put M.length ++ M := rfl
  have hf0 : bat.field false M = num.put (-1) := rfl
  have HF1 := Lib.hid hf1; clear hf1
  have HF0 := Lib.hid hf0; clear hf0
  cases has with
  | false =>
    go_enter Try.func38, Try.ntmps38
    go_wp2_with fail
    refine (WrN.num H.out (by omega) (-1) (by decide) (by decide)).mono ?_
    rintro e w' ⟨rfl, hw⟩
    have HW := Lib.hid hw; clear hw
    go_wp2
    refine bodyPost_ret (results_none rfl _ _ _) rfl ?_
    exact ⟨rfl, by rw [HF0.out]; exact HW.out⟩
  | true =>
    go_enter Try.func38, Try.ntmps38
    go_wp2_with fail
    refine (WrN.bytes H.out X c M (by omega) HAT.out.1 HAT.out.2).mono ?_
    rintro e w' ⟨rfl, hw⟩
    have HW := Lib.hid hw; clear hw
    go_wp2
    go_end0
    exact ⟨rfl, by rw [HF1.out, ← List.append_assoc]; exact HW.out⟩
end Go.Proofs.Ytndingohckcmdaa

/- batch: contract of Encode. -/
import Derived.Test.YtkkpbnhagobhmaaBtD
import Derived.Test.YtkkpbnhagobhmaaWrL
import Derived.Test.YtkkpbnhagobhmaaCrcR
import Derived.Test.YtkkpbnhagobhmaaNumP
namespace Go.Proofs.Ytkkpbnhagobhmaa
open Go.RowKit

def bat.field (has : Bool) (L : List Nat) : List Nat := if has then num.put L.length ++ L else num.put (-1)
def Rec.bytes (first base : Int) (r : Rec) : List Nat := num.put (r.body first base) ++ num.put (r.time - first) ++ num.put (r.off - base) ++ bat.field r.hasKey r.key ++ bat.field r.hasVal r.val
def Bat.head (b : Bat) : List Nat := wire.be (b.last - b.base).toNat 8 ++ wire.be (Bat.first b.recs).toNat 8 ++ wire.be b.prod.toNat 8 ++ wire.be b.epoch.toNat 2 ++ wire.be b.seq.toNat 4 ++ wire.be b.recs.length 4
def Bat.body (b : Bat) (k : Nat) : List Nat := b.head ++ ((b.recs.take k).map (Rec.bytes (Bat.first b.recs) b.base)).flatten
def Bat.summed (b : Bat) : List Nat := b.body b.recs.length
def Bat.front (b : Bat) : List Nat := wire.be b.base.toNat 8 ++ wire.be (4 + b.summed.length) 4 ++ wire.be (crc.more 0 b.summed) 4
def Bat.bytes (b : Bat) : List Nat := b.front ++ b.summed

theorem bat.field_le (has : Bool) (L : List Nat) : (bat.field has L).length ≤ 10 + L.length := by
  unfold bat.field
  split
  · have := num.put_bd (L.length : Int); rw [List.length_append]; omega
  · have := num.put_bd (-1); omega
theorem Rec.bytes_le {r : Rec} (h : r.ok) (first base : Int) : (r.bytes first base).length ≤ 2250 := by
  obtain ⟨-, -, -, -, h5, h6⟩ := h
  unfold Rec.bytes
  simp only [List.length_append]
  have a1 := num.put_bd (r.body first base)
  have a2 := num.put_bd (r.time - first)
  have a3 := num.put_bd (r.off - base)
  have a4 := bat.field_le r.hasKey r.key
  have a5 := bat.field_le r.hasVal r.val
  omega
theorem Bat.head_len (b : Bat) : b.head.length = 34 := by
  unfold Bat.head
  simp only [List.length_append, wire.be_len]
theorem Bat.flat_le (first base : Int) (rs : List Rec) (h : ∀ r ∈ rs, r.ok) : ((rs.map (Rec.bytes first base)).flatten).length ≤ 2250 * rs.length := by
  induction rs with
  | nil => simp
  | cons r rs ih =>
    have := ih fun x hx => h x (List.mem_cons_of_mem _ hx)
    have h1 := Rec.bytes_le (h r (List.mem_cons_self ..)) first base
    simp only [List.map_cons, List.flatten_cons, List.length_append, List.length_cons]
    omega
theorem Bat.body_le (b : Bat) (h : ∀ r ∈ b.recs, r.ok) (hl : b.recs.length ≤ 100) (k : Nat) : (b.body k).length ≤ 225034 := by
  have h1 := Bat.flat_le (Bat.first b.recs) b.base (b.recs.take k) fun r hr => h r (List.mem_of_mem_take hr)
  have h2 := b.head_len
  unfold Bat.body
  rw [List.length_append, h2]
  rw [List.length_take] at h1
  omega
theorem Bat.body_succ (b : Bat) (k : Nat) (r : Rec) (h : b.recs[k]? = some r) : b.body (k + 1) = b.body k ++ r.bytes (Bat.first b.recs) b.base := by
  obtain ⟨hk, rfl⟩ := List.getElem?_eq_some_iff.1 h
  unfold Bat.body
  rw [List.take_succ_eq_append_getElem hk, List.map_append, List.flatten_append]
  simp
theorem bat.field_byte {has : Bool} {L : List Nat} (h : ∀ x ∈ L, x < 256) (hl : L.length ≤ 1000000) : ∀ x ∈ bat.field has L, x < 256 := by
  unfold bat.field
  split
  · intro x hx
    rcases List.mem_append.1 hx with q | q
    · exact num.put_byte _ (by omega) (by omega) x q
    · exact h x q
  · exact fun x hx => num.put_byte _ (by decide) (by decide) x hx

theorem own_pos5 {w : World} {base : Nat} {e : TypeId} {size : Nat} {v : Value} {n : Nat} {xs : List Value} (h : w.ownsRow base e size v n xs) (hn : 0 < n) :
    ∃ g c, v = .slice (some ⟨g, 0, none⟩) n c ∧ n ≤ c ∧ c ≤ maxLen ∧ base ≤ g ∧ g < w.heap.size ∧ At w (some ⟨g, 0, none⟩) (n * size) (fun j => xs.getD j undef) := by
  obtain ⟨A, c, hv, hc, hat⟩ := own_at h
  have hcap := h
  rcases h.2 with ⟨h1, h2⟩ | ⟨g, cap, cur, h1, h2, -⟩
  · omega
  · subst h1
    obtain ⟨rfl, rfl⟩ : some ⟨g, 0, none⟩ = A ∧ cap = c := by simpa using hv
    exact ⟨g, cap, rfl, hc, own_cap hcap, h2, (hcap.lt g rfl).2, hat⟩

theorem Rec.bytes_byte {r : Rec} (h : r.ok) (hk : ∀ x ∈ r.key, x < 256) (hv : ∀ x ∈ r.val, x < 256) {first base : Int} (h1 : 0 ≤ first) (h2 : first ≤ 1125899906842624) (h3 : 0 ≤ base) (h4 : base ≤ 4611686018427387904) : ∀ x ∈ r.bytes first base, x < 256 := by
  have hb := Rec.body_le h first base
  obtain ⟨a1, a2, a3, a4, a5, a6⟩ := h
  intro x hx
  unfold Rec.bytes at hx
  simp only [List.mem_append] at hx
  rcases hx with (((q | q) | q) | q) | q
  · exact num.put_byte _ (by omega) (by omega) x q
  · exact num.put_byte _ (by omega) (by omega) x q
  · exact num.put_byte _ (by omega) (by omega) x q
  · exact bat.field_byte hk (by omega) x q
  · exact bat.field_byte hv (by omega) x q
theorem RecsV.byte {w : World} {v : Value} {rs : List Rec} (h : RecsV w v rs) : ∀ r ∈ rs, (∀ x ∈ r.key, x < 256) ∧ (∀ x ∈ r.val, x < 256) := by
  intro r hr
  obtain ⟨j, hj⟩ := List.mem_iff_getElem?.1 hr
  obtain ⟨p, off, c', kv, vv, -, -, -, -, -, -, -, -, -, -, hk, hvv, -, -⟩ := h.at' hj
  obtain ⟨_, _, _, _, _, _, h1⟩ := hk
  obtain ⟨_, _, _, _, _, _, h2⟩ := hvv
  exact ⟨h1, h2⟩
theorem Bat.summed_byte {b : Bat} (hm : b.may) (ho : ∀ r ∈ b.recs, r.ok) (hb : ∀ r ∈ b.recs, (∀ x ∈ r.key, x < 256) ∧ (∀ x ∈ r.val, x < 256)) : ∀ x ∈ b.summed, x < 256 := by
  have hfirst : 0 ≤ Bat.first b.recs ∧ Bat.first b.recs ≤ 1125899906842624 := by
    cases hr : b.recs with
    | nil => exact ⟨Int.le_refl 0, by show (0 : Int) ≤ 1125899906842624; omega⟩
    | cons r rs =>
      have := ho r (by rw [hr]; exact List.mem_cons_self ..)
      exact ⟨this.1, this.2.1⟩
  intro x hx
  unfold Bat.summed Bat.body Bat.head at hx
  simp only [List.mem_append] at hx
  rcases hx with (((((q | q) | q) | q) | q) | q) | q
  · exact wire.be_byte _ _ x q
  · exact wire.be_byte _ _ x q
  · exact wire.be_byte _ _ x q
  · exact wire.be_byte _ _ x q
  · exact wire.be_byte _ _ x q
  · exact wire.be_byte _ _ x q
  · obtain ⟨l, hl, hxl⟩ := List.mem_flatten.1 q
    obtain ⟨r, hr, rfl⟩ := List.mem_map.1 hl
    have hr := List.mem_of_mem_take hr
    exact Rec.bytes_byte (ho r hr) (hb r hr).1 (hb r hr).2 hfirst.1 hfirst.2 hm.1 hm.2.1 x hxl

end Go.Proofs.Ytkkpbnhagobhmaa

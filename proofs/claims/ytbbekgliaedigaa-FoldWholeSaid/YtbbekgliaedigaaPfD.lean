/- The document's own map of keys (cordwainref10): Offer. -/
import Derived.Test.YtbbekgliaedigaaPfC
namespace Go.Proofs.Ytbbekgliaedigaa
open Go.RowKit
set_option maxRecDepth 20000

def POff (X : Option Addr) (m c : Nat) (K : List Nat) (o : Int) : PItm := ⟨X, m, c, K, none, 0, 0, [], o⟩
theorem POff.bytes {w : World} {X : Option Addr} {m c : Nat} {K : List Nat} (o : Int) (hk : K.length = m) (hm : m ≤ 1000000) (h : At w X m (byteAt K)) : PBytes w (POff X m c K o) := ⟨hk, hm, h, rfl, Nat.zero_le _, fun h => absurd h (Nat.lt_irrefl 0)⟩
theorem pf.put_mem {l : List PItm} {x y : PItm} (h : y ∈ pf.put l x) : y = x ∨ y ∈ l := by
  unfold pf.put at h
  rcases List.mem_append.1 h with h | h
  · rcases List.mem_append.1 h with h | h
    · exact .inr (List.mem_of_mem_take h)
    · exact .inl (List.mem_singleton.1 h)
  · exact .inr (List.mem_of_mem_drop h)

/-- What a store of the new row leaves. -/
theorem RMapAt.stored {w0 w w1 w2 wf : World} {r : Nat} {most : Int} {l : List PItm} {v v' : Value} {x : PItm} (hr : Blk w r 35 #[.int .i64 most, v]) (hb : ∀ y ∈ l, PBytes w0 y) (hx : PBytes w0 x)
    (h1 : Below w.heap.size w w1) (h2 : Below w1.heap.size w1 w2) (ho : w2.ownsRow w1.heap.size 122 3 v' (pf.put l x).length (pf.row (pf.put l x))) (e : wf = w2.setCell ⟨r, 1, none⟩ v') :
    RMapAt w0 wf r most (pf.put l x) ∧ Chg w wf (fun k => k = r) := by
  have h12 : Below w.heap.size w w2 := h1.trans (h2.mono h1.size)
  have hr2 := (chg_of (P := fun _ => False) h12).blk hr fun h => h
  have hrf : Blk wf r 35 #[.int .i64 most, v'] := by rw [e]; exact hr2.set 1 _
  have hcf : Chg w2 wf (fun k => k = r) := by rw [e]; exact Chg.setCell _ _ _ _
  have hof := hcf.own ho fun k hk e => by subst e; exact hr2.not_row (by decide) ho hk
  exact ⟨⟨v', hrf, ownsRow_base hof (Nat.zero_le _), fun y hy => (pf.put_mem hy).elim (fun e => e ▸ hx) (hb y)⟩, (chg_of (P := fun k => k = r) h12).trans hcf fun _ _ h => h⟩

def rmap.OfferPost (w0 w : World) (r : Nat) (most : Int) (l : List PItm) (x : PItm) (e : Ending) (w' : World) : Prop :=
  e = .returned (.bool (pf.can l most x.key)) ∧ RMapAt w0 w' r most (pf.offer l most x) ∧ Chg w w' (fun k => k = r)

set_option maxHeartbeats 400000 in
theorem rmap.offer_any (w0 : World) (r : Nat) (most : Int) (l : List PItm) (X : Option Addr) (m cx : Nat) (K : List Nat) (o : Int) (w : World) (h : RMapAt w0 w r most l) (h0 : Below w0.heap.size w0 w) (hlen : l.length ≤ 10000) (hk : K.length = m) (hm : m ≤ 1000000) (hka : At w0 X m (byteAt K)) :
    Calls Try.prog 19 #[.pointer (some ⟨r, 0, none⟩), .slice X m cx, .int .i64 o] w (rmap.OfferPost w0 w r most l (POff X m cx K o)) := by
  obtain ⟨v, h1, h2, h3⟩ := h
  obtain ⟨A, c, rfl, hnc, hat⟩ := own_at h2
  obtain ⟨n, hn⟩ : ∃ n, n = l.length := ⟨_, rfl⟩
  have hb := fun x hx => (h3 x hx).below h0 (Nat.le_refl _)
  have hf := pf.find_any A n c l X m cx K w hn.symm (by omega) hat hb hk (hka.below h0 (Nat.le_refl _))
  have hput : ∀ (o' : Int) (q : Nat), Calls Try.prog 69 #[.slice A n c, (POff X m cx K o').agg] (w.drewN q) fun e w' => ∃ v, e = .returned v ∧ w'.ownsRow w.heap.size 122 3 v (pf.put l (POff X m cx K o')).length (pf.row (pf.put l (POff X m cx K o'))) ∧ Below w.heap.size (w.drewN q) w' := fun o' q =>
    pf.put_any A n c l (POff X m cx K o') (w.drewN q) hn.symm (by omega) (by rw [hn]; exact hnc) hat hb ((POff.bytes o' hk hm hka).below (bdrew h0 q) (Nat.le_refl _))
  have hfin : ∀ (q : Nat) (o' : Int) (w2 wf : World) (v' : Value), Below w.heap.size (w.drewN q) w2 → w2.ownsRow w.heap.size 122 3 v' (pf.put l (POff X m cx K o')).length (pf.row (pf.put l (POff X m cx K o'))) → wf = w2.setCell ⟨r, 1, none⟩ v' → RMapAt w0 wf r most (pf.put l (POff X m cx K o')) ∧ Chg w wf (fun k => k = r) := fun q o' w2 wf v' hb2 ho e =>
    RMapAt.stored (w1 := w.drewN q) h1 h3 (POff.bytes o' hk hm hka) (bdrew (Below.refl _ w) q) hb2 ho e
  have hstill : RMapAt w0 w r most l := ⟨_, h1, h2, h3⟩
  have hblk : ∀ (q : Nat) (w2 : World), Below w.heap.size (w.drewN q) w2 → Blk w2 r 35 #[.int .i64 most, .slice A n c] := fun q w2 hb2 => by
    have h1' : Blk w r 35 #[.int .i64 most, .slice A n c] := by rw [hn]; exact h1
    exact (hb2.block r h1.lt).trans h1'
  have u1 : ∀ q, (w.drewN q).cell? ⟨r, 1, none⟩ = some (.slice A n c) := fun _ => by rw [hn]; exact h1.cell 1 rfl
  have u0 : ∀ q, (w.drewN q).cell? ⟨r, 0, none⟩ = some (.int .i64 most) := fun _ => h1.cell 0 rfl
  have c1 : w.cell? ⟨r, 1, none⟩ = some (.slice A n c) := u1 0
  have HF := Lib.hid hf; clear hf
  have HPUT := Lib.hid hput; clear hput
  have HFIN := Lib.hid hfin; clear hfin
  have HST := Lib.hid hstill; clear hstill
  have HBLK := Lib.hid hblk; clear hblk
  rw [← hn] at hlen
  obtain ⟨t, ht⟩ : ∃ t, t = pf.has l (strOf K) := ⟨_, rfl⟩
  obtain ⟨k, hkp⟩ : ∃ k, k = pf.place l (strOf K) := ⟨_, rfl⟩
  rw [← ht, ← hkp] at HF
  have hkey : (POff X m cx K o).key = strOf K := rfl
  cases t with
  | false =>
    by_cases hroom : (n : Int) < most
    · have hcan : pf.can l most (POff X m cx K o).key = true := by unfold pf.can; rw [hkey, ← ht, ← hn]; simpa using hroom
      have hoff : pf.offer l most (POff X m cx K o) = pf.put l (POff X m cx K o) := by unfold pf.offer; rw [if_pos hcan]; unfold pf.raise; rw [hkey, ← ht]
      have HE := Lib.hid (And.intro hcan hoff); clear hcan hoff
      clear ht hkp h1 h2 h3 hat hb hk hka hkey hn
      have hd : decide (most ≤ (n : Int)) = false := decide_eq_false (by omega)
      go_enter Try.func19, Try.ntmps19
      go_wp2_with fail
      refine HF.out.mono ?_
      rintro e w1 ⟨rfl, q, rfl⟩
      go_wp2_with fail
      go_quiet (fail)
      go_wp2_with fail
      refine (HPUT.out o (q + nq)).mono ?_
      rintro e w2 ⟨v', rfl, ho, hb2⟩
      obtain ⟨A9, c9, rfl, -⟩ := own_at ho
      have hbk := HBLK.out (q + nq) w2 hb2
      have d1 := hbk.cell 1 rfl
      have ff := hbk.frozen 1
      have HFI := Lib.hid (fun wf => HFIN.out (q + nq) o w2 wf _ hb2 ho); clear hbk ho hb2
      generalize (pf.put l (POff X m cx K o)).length = nl at *
      go_wp2
      go_ret
      obtain ⟨g1, g2⟩ := HFI.out _ rfl
      exact ⟨by rw [HE.out.1]; rfl, by rw [HE.out.2]; exact g1, g2⟩
    · have hcan : pf.can l most (POff X m cx K o).key = false := by unfold pf.can; rw [hkey, ← ht, ← hn]; simpa using hroom
      have hoff : pf.offer l most (POff X m cx K o) = l := by unfold pf.offer; rw [if_neg (by rw [hcan]; decide)]
      have HE := Lib.hid (And.intro hcan hoff); clear hcan hoff
      clear ht hkp h1 h2 h3 hat hb hk hka hkey hn
      have hd : decide (most ≤ (n : Int)) = true := decide_eq_true (by omega)
      go_enter Try.func19, Try.ntmps19
      go_wp2_with fail
      refine HF.out.mono ?_
      rintro e w1 ⟨rfl, q, rfl⟩
      go_wp2_with fail
      go_quiet (fail)
      go_wp2
      go_ret
      have hbd : Below w.heap.size w ((w.drewN q).drewN nq) := bdrew (bdrew (Below.refl _ w) _) _
      exact ⟨by rw [HE.out.1]; rfl, by rw [HE.out.2]; exact HST.out.below hbd, chg_of hbd⟩
  | true =>
    obtain ⟨y, hy⟩ := pf.has_at ht.symm
    rw [← hkp] at hy
    have hcan : pf.can l most (POff X m cx K o).key = true := by unfold pf.can; rw [hkey, ← ht]; rfl
    have hoff : pf.offer l most (POff X m cx K o) = pf.put l (POff X m cx K (max o y.off)) := by unfold pf.offer; rw [if_pos hcan]; unfold pf.raise; rw [hkey, ← ht, ← hkp, hy]; rfl
    have HE := Lib.hid (And.intro hcan hoff); clear hcan hoff
    have hkn : k < n := by rw [hn]; exact (List.getElem?_eq_some_iff.1 hy).1
    obtain ⟨b, off, rfl, -, -, -, d2⟩ := PAt.cells hat hy
    have u2 : ∀ q, (w.drewN q).cell? ⟨b, off + k * 3 + 2, none⟩ = some (.int .i64 y.off) := fun _ => d2
    generalize y.off = yo at *
    obtain ⟨oo, hoo⟩ : ∃ oo, oo = max o yo := ⟨_, rfl⟩
    have hmax : (if o < yo then yo else o) = oo := by rw [hoo]; split <;> omega
    have hmax2 : max o yo = oo := hoo.symm
    rw [hmax2] at HE
    clear ht hkp h1 h2 h3 hat hb hk hka hkey hn hy d2 hoo
    go_enter Try.func19, Try.ntmps19
    go_wp2_with fail
    refine HF.out.mono ?_
    rintro e w1 ⟨rfl, q, rfl⟩
    go_wp2_with fail
    go_quiet (fail)
    go_wp2_with fail
    refine (HPUT.out oo (q + nq)).mono ?_
    rintro e w2 ⟨v', rfl, ho, hb2⟩
    obtain ⟨A9, c9, rfl, -⟩ := own_at ho
    have hbk := HBLK.out (q + nq) w2 hb2
    have d1 := hbk.cell 1 rfl
    have ff := hbk.frozen 1
    have HFI := Lib.hid (fun wf => HFIN.out (q + nq) oo w2 wf _ hb2 ho); clear hbk ho hb2
    generalize (pf.put l (POff X m cx K oo)).length = nl at *
    go_wp2
    go_ret
    obtain ⟨g1, g2⟩ := HFI.out _ rfl
    exact ⟨by rw [HE.out.1]; rfl, by rw [HE.out.2]; exact g1, g2⟩
end Go.Proofs.Ytbbekgliaedigaa

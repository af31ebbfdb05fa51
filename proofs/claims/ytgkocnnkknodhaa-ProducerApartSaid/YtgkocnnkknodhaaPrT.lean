/- producer: the table behind an Add. -/
import Derived.Test.YtgkocnnkknodhaaPrC
namespace Go.Proofs.Ytgkocnnkknodhaa
open Go.RowKit

theorem sentCells_drop (l : List Sent) (k : Nat) : sentCells (l.drop k) = (sentCells l).drop (k * 3) := by
  induction l generalizing k with
  | nil => simp [sentCells]
  | cons a r ih =>
    cases k with
    | zero => rfl
    | succ k =>
      have e : sentCells (a :: r) = .int .i64 a.seq :: .int .i64 a.count :: .int .i64 a.base :: sentCells r := rfl
      rw [List.drop_succ_cons, ih k, e, show (k + 1) * 3 = k * 3 + 3 by omega]
      rfl
theorem At.sent_drop {w : World} {b off : Nat} {l : List Sent} (h : At w (some ⟨b, off, none⟩) (l.length * 3) (sentAt l)) (k : Nat) : At w (some ⟨b, off + k * 3, none⟩) ((l.drop k).length * 3) (sentAt (l.drop k)) := fun hn => by
  rw [List.length_drop] at hn
  obtain ⟨b', off', h1, h2, h3⟩ := h (by omega)
  cases h1
  refine ⟨b, off + k * 3, rfl, h2, fun j hj => ?_⟩
  rw [List.length_drop] at hj
  rw [Nat.add_assoc, h3 _ (by omega)]
  unfold sentAt
  rw [sentCells_drop]
  simp [List.getD]

/-- What of a producer's row stays before a batch of an epoch; the row behind it. -/
def prod.base (r : Option PRow) (ep : Int) : List Sent := match r with | some r => if r.epoch = ep then r.last else [] | none => []
def prod.window (l : List Sent) : List Sent := l.drop (l.length - 5)
def prod.row (r : Option PRow) (ep : Int) (s : Sent) : PRow := ⟨ep, prod.window (prod.base r ep ++ [s])⟩
def prod.put (g : Int → Option PRow) (P ep : Int) (s : Sent) : Int → Option PRow := fun x => if x = P then some (prod.row (g P) ep s) else g x

theorem prod.base_fit {r : Option PRow} (h : ∀ x, r = some x → x.fit) (ep : Int) : (prod.base r ep).length ≤ 5 ∧ ∀ s ∈ prod.base r ep, s.fit := by
  unfold prod.base
  cases r with
  | none => simp
  | some r =>
    dsimp only
    split
    · exact ⟨(h r rfl).five, (h r rfl).each⟩
    · simp
theorem prod.row_fit {r : Option PRow} (h : ∀ x, r = some x → x.fit) {ep : Int} {s : Sent} (he : intOk ep) (hs : s.fit) : (prod.row r ep s).fit := by
  obtain ⟨h1, h2⟩ := prod.base_fit h ep
  refine ⟨he, ?_, ?_, fun x hx => ?_⟩
  · simp only [prod.row, prod.window, List.length_drop, List.length_append, List.length_singleton]; omega
  · simp only [prod.row, prod.window, List.length_drop, List.length_append, List.length_singleton]; omega
  · rcases List.mem_append.1 (List.mem_of_mem_drop (show x ∈ List.drop _ (prod.base r ep ++ [s]) from hx)) with h | h
    · exact h2 x h
    · obtain rfl := List.mem_singleton.1 h
      exact hs

def prod.cnt (N : Nat) (r : Option PRow) : Nat := if r.isSome then N else N + 1
theorem GM.not_own {K : Type} {κ : KeyKind K} {w : World} {b N : Nat} {g : K → Option Value} (h : GM κ w b N g) {base : Nat} {e : TypeId} {size k : Nat} {v : Value} {xs : List Value} (hr : w.ownsRow base e size v k xs) : v.ownBlock ≠ some b := by
  intro hk
  rcases hr.2 with ⟨h1, -⟩ | ⟨gg, cap, cur, h1, -, h3, -⟩
  · rw [h1] at hk; cases hk
  · rw [h1] at hk
    obtain rfl : gg = b := by simpa [Value.ownBlock] using hk
    obtain ⟨D, ⟨es, clock, h5, -⟩, -⟩ := h
    have := h5.symm.trans h3
    simp at this

theorem prod.add_tab {w wc w6 w8 : World} {t b N q B6 : Nat} {gv : Int → Option Value} {g : Int → Option PRow} {Bs : Nat → Prop} {P ep : Int} {s : Sent} {v2 v6 : Value} {W : List Sent} (hgm : GM intKey w b N gv) (hR : RowsAt w gv g Bs) (hBs : Bs t ∧ Bs b)
    (hin : ∀ k, v2.ownBlock = some k → Bs k ∧ ∃ r, gv P = some (rowVal r v2)) (hbw : Below w.heap.size w wc) (hch6 : Chg wc w6 (fun k => v2.ownBlock = some k ∨ k = q)) (hq : w.heap.size ≤ q) (hch8 : Chg w6 w8 (fun k => k = b))
    (hbt6 : Blk w6 t 136 #[.map (some b)]) (hB6 : w.heap.size ≤ B6) (hown6 : w6.ownsRow B6 143 3 v6 W.length (sentCells W)) (hgm8 : GM intKey w8 b (if (gv P).isSome then N else N + 1) (gput gv P (.agg #[.int .i64 ep, v6])))
    (hW : W = prod.window (prod.base (g P) ep ++ [s])) (htb : t ≠ b) (hep : intOk ep) (hs : s.fit) (hP : intOk P) :
    PTab w8 t (prod.cnt N (g P)) (prod.put g P ep s) (fun k => Bs k ∨ w.heap.size ≤ k) ∧ Chg w w8 Bs := by
  have hcw : Chg w w8 Bs := ((chg_of (P := Bs) hbw).trans hch6 fun k hk h => by
      rcases h with h | h
      · exact (hin k h).1
      · omega).trans hch8 fun k _ h => by have e : k = b := h; rw [e]; exact hBs.2
  refine ⟨⟨b, gput gv P (.agg #[.int .i64 ep, v6]), hch8.blk hbt6 htb, ?_, ⟨fun x hx => ?_, fun x r hx hr => ?_, fun x y r r' v v' hx hy hxy h1 h2 k hk hk' => ?_⟩, .inl hBs.1, .inl hBs.2⟩, hcw⟩
  · have e : prod.cnt N (g P) = if (gv P).isSome then N else N + 1 := by
      unfold prod.cnt
      have := hR.none' P hP
      cases hg : g P <;> cases hv : gv P <;> simp_all
    rw [e]
    exact hgm8
  · unfold prod.put
    by_cases h : x = P
    · subst h; rw [gput_same, if_pos rfl]; simp
    · rw [gput_other _ h, if_neg h]; exact hR.none' x hx
  · unfold prod.put at hr
    by_cases h : x = P
    · subst h
      rw [if_pos rfl] at hr
      obtain rfl := Option.some.inj hr
      refine ⟨prod.row_fit (fun r hr => (hR.row x r hx hr).1) hep hs, v6, by rw [gput_same]; rfl, ?_, fun k hk => .inr (Nat.le_trans hB6 (hown6.lt k hk).1)⟩
      have e : (prod.row (g x) ep s).last = W := by rw [hW]; rfl
      rw [e]
      have h6 : w6.ownsRow 0 143 3 v6 W.length (sentCells W) := by
        refine ⟨hown6.1, ?_⟩
        rcases hown6.2 with h | ⟨gg, cap, cur, q1, q2, q3⟩
        · exact .inl h
        · exact .inr ⟨gg, cap, cur, q1, Nat.zero_le _, q3⟩
      exact hch8.own h6 fun k hk e => by
        have e : k = b := e
        have := (hown6.lt k hk).1
        have := hgm.lt
        omega
    · rw [if_neg h] at hr
      obtain ⟨h1, v, h2, h3, h4⟩ := hR.row x r hx hr
      refine ⟨h1, v, by rw [gput_other _ h]; exact h2, ?_, fun k hk => .inl (h4 k hk)⟩
      have hlt := fun k hk => (h3.lt k hk).2
      have h5 := (chg_of (P := fun _ => False) hbw).own h3 fun _ _ => id
      have h6 := hch6.own h5 fun k hk e => by
        rcases e with e | e
        · obtain ⟨r2, hr2⟩ := (hin k e).2
          exact hR.apart P x r2 r v2 v hP hx (Ne.symm h) hr2 h2 k e hk
        · have := hlt k hk; omega
      exact hch8.own h6 fun k hk e => by
        have e : k = b := e
        subst e
        exact hgm.not_own h3 hk
  · by_cases h3 : x = P
    · subst h3
      rw [gput_same] at h1
      rw [gput_other _ (Ne.symm hxy)] at h2
      obtain ⟨-, rfl⟩ : r.epoch = ep ∧ v = v6 := by simp [rowVal] at h1; exact ⟨h1.1.symm, h1.2.symm⟩
      have hge := (hown6.lt k hk).1
      cases hgy : g y with
      | none => rw [(hR.none' y hy).2 hgy] at h2; cases h2
      | some r3 =>
        obtain ⟨-, v3, q2, q3, -⟩ := hR.row y r3 hy hgy
        rw [q2] at h2
        have e3 : v3 = v' := by simp [rowVal] at h2; exact h2.2
        subst e3
        have := (q3.lt k hk').2
        omega
    · by_cases h4 : y = P
      · subst h4
        rw [gput_same] at h2
        rw [gput_other _ hxy] at h1
        obtain ⟨-, rfl⟩ : r'.epoch = ep ∧ v' = v6 := by simp [rowVal] at h2; exact ⟨h2.1.symm, h2.2.symm⟩
        have hge := (hown6.lt k hk').1
        cases hgx : g x with
        | none => rw [(hR.none' x hx).2 hgx] at h1; cases h1
        | some r3 =>
          obtain ⟨-, v3, q2, q3, -⟩ := hR.row x r3 hx hgx
          rw [q2] at h1
          have e3 : v3 = v := by simp [rowVal] at h1; exact h1.2
          subst e3
          have := (q3.lt k hk).2
          omega
      · rw [gput_other _ h3] at h1
        rw [gput_other _ h4] at h2
        exact hR.apart x y r r' v v' hx hy hxy h1 h2 k hk hk'

theorem own_pos {w : World} {base : Nat} {e : TypeId} {size : Nat} {v : Value} {n : Nat} {xs : List Value} (h : w.ownsRow base e size v n xs) (hn : 0 < n) :
    ∃ g c, v = .slice (some ⟨g, 0, none⟩) n c ∧ n ≤ c ∧ c ≤ maxLen ∧ base ≤ g ∧ g < w.heap.size ∧ At w (some ⟨g, 0, none⟩) (n * size) (fun j => xs.getD j undef) := by
  obtain ⟨A, c, hv, hc, hat⟩ := own_at h
  have hcap := h
  rcases h.2 with ⟨h1, h2⟩ | ⟨g, cap, cur, h1, h2, -⟩
  · omega
  · subst h1
    obtain ⟨rfl, rfl⟩ : some ⟨g, 0, none⟩ = A ∧ cap = c := by simpa using hv
    exact ⟨g, cap, rfl, hc, own_cap hcap, h2, (hcap.lt g rfl).2, hat⟩

end Go.Proofs.Ytgkocnnkknodhaa

/- The law ClientProduces: the state between two steps, and how a step leaves it. -/
import Derived.Test.YtahncanmfjmfnaaCpB
namespace Go.Proofs.Ytahncanmfjmfnaa
open Go.RowKit Go.Maps
set_option maxRecDepth 100000

theorem CnAt.up {w : World} {p : Nat} {id epoch corr : Int} {u : Option CSent} {D : SlotK → Int} {F : Nat → Prop} {n m : Nat} (h : CnAt w p id epoch corr u D F n) (hn : n ≤ m) : CnAt w p id epoch corr u D F m := by
  obtain ⟨uv, mb, N, g, h1, h2, h3, h4, h5⟩ := h
  exact ⟨uv, mb, N, g, h1, h2, h3, Nat.le_trans h4 hn, h5⟩
theorem PlAt.lt {w : World} {B : Nat} {v : Value} {P : List (SlotK × Int)} (h : PlAt w B v P) {g : Nat} (hg : v.ownBlock = some g) : B ≤ g ∧ g < w.heap.size := by
  obtain ⟨V, h1, -⟩ := h
  exact h1.lt g hg
theorem PlAt.not_blk {w : World} {B : Nat} {v : Value} {P : List (SlotK × Int)} (h : PlAt w B v P) {b : Nat} {T : TypeId} {cs : Array Value} (hb : Blk w b T cs) (hne : T ≠ 37) : v.ownBlock ≠ some b := by
  obtain ⟨V, h1, -⟩ := h
  exact hb.not_row hne h1

/-- What the law's own request says of what is under way. -/
def cp.Now (wx : World) (F : Nat → Prop) (b : Nat) (C ct : Int) : Option CSent → Prop
  | none => ∃ cs : Array Value, cs.size = 13 ∧ Blk wx b 35 cs
  | some s => s.corr = C ∧ s.count = ct ∧ (0 ≤ ct ∧ ct ≤ 1000) ∧ s.data.length ≤ 65536 ∧ (∃ x : SlotK, s.topic = x.s ∧ s.part = x.p) ∧ ∃ A c, Blk wx b 35 (cn.req C s.topic s.part (.slice A s.data.length c)) ∧
      wx.ownsRow 0 5 1 (.slice A s.data.length c) s.data.length (u8s s.data) ∧ ∀ g, (Value.slice A s.data.length c).ownBlock = some g → ¬ F g
theorem cp.Now.chg {wx wy : World} {F Q : Nat → Prop} {b : Nat} {C ct : Int} {u : Option CSent} (h : cp.Now wx F b C ct u) (hc : Chg wx wy Q) (hq : ∀ g, Q g → F g) (hb : ¬ Q b) : cp.Now wy F b C ct u := by
  cases u with
  | none =>
    obtain ⟨cs, hs, h⟩ := h
    exact ⟨cs, hs, hc.blk h hb⟩
  | some s =>
    obtain ⟨h1, h2, h3, h4, h5, A, c, h6, h7, h8⟩ := h
    exact ⟨h1, h2, h3, h4, h5, A, c, hc.blk h6 hb, hc.own h7 fun k hk q => h8 k hk (hq k q), h8⟩
theorem cp.Now.blk {wx : World} {F : Nat → Prop} {b : Nat} {C ct : Int} {u : Option CSent} (h : cp.Now wx F b C ct u) : ∃ cs : Array Value, cs.size = 13 ∧ Blk wx b 35 cs := by
  cases u with
  | none => exact h
  | some s =>
    obtain ⟨-, -, -, -, -, A, c, h6, -⟩ := h
    exact ⟨_, rfl, h6⟩
/-- The state ahead of the step j. -/
structure cp.St (w wx : World) (p : Nat) (id epoch : Int) (b : Nat) (dn : Value) (u : Option CSent) (D : SlotK → Int) (F : Nat → Prop) (P : List (SlotK × Int)) (C ct : Int) (j : Nat) : Prop where
  cn : CnAt wx p id epoch C u D F j
  pl : PL D P
  row : PlAt wx w.heap.size dn P
  len : P.length ≤ j
  corr : 0 ≤ C ∧ C ≤ j
  many : ∀ x, 0 ≤ D x ∧ D x ≤ 1000 * (j : Int)
  now : cp.Now wx F b C ct u
  box : ¬ F b
  rowF : ∀ g, dn.ownBlock = some g → ¬ F g
  fresh : ∀ g, F g → w.heap.size ≤ g
  old : w.heap.size ≤ b
  below : Below w.heap.size w wx
theorem cp.St.keep {w wx wy : World} {p : Nat} {id epoch : Int} {b : Nat} {dn : Value} {u : Option CSent} {D : SlotK → Int} {F : Nat → Prop} {P : List (SlotK × Int)} {C ct : Int} {j : Nat}
    (h : cp.St w wx p id epoch b dn u D F P C ct j) (hc : Chg wx wy (fun _ => False)) : cp.St w wy p id epoch b dn u D F P C ct j :=
  ⟨h.cn.keep hc fun _ _ q => q, h.pl, h.row.chg hc fun _ _ q => q, h.len, h.corr, h.many, h.now.chg hc (fun _ q => q.elim) fun q => q, h.box, h.rowF, h.fresh, h.old, h.below.trans (hc.below h.below.size fun _ q => q.elim)⟩
theorem cp.St.next {w wx : World} {p : Nat} {id epoch : Int} {b : Nat} {dn : Value} {u : Option CSent} {D : SlotK → Int} {F : Nat → Prop} {P : List (SlotK × Int)} {C ct : Int} {j : Nat}
    (h : cp.St w wx p id epoch b dn u D F P C ct j) : cp.St w wx p id epoch b dn u D F P C ct (j + 1) :=
  ⟨h.cn.up (by omega), h.pl, h.row, by have := h.len; omega, by have := h.corr; omega, fun x => by have := h.many x; omega, h.now, h.box, h.rowF, h.fresh, h.old, h.below⟩
/-- The law's request is another block than the places'. -/
theorem cp.St.apart {w wx : World} {p : Nat} {id epoch : Int} {b : Nat} {dn : Value} {u : Option CSent} {D : SlotK → Int} {F : Nat → Prop} {P : List (SlotK × Int)} {C ct : Int} {j : Nat}
    (h : cp.St w wx p id epoch b dn u D F P C ct j) : dn.ownBlock ≠ some b := by
  obtain ⟨cs, -, hb⟩ := h.now.blk
  exact h.row.not_blk hb (by decide)
/-- A batch was made; g is the block that its answer was put into. -/
theorem cp.St.make {w wx wy wz : World} {p : Nat} {id epoch : Int} {b g : Nat} {dn : Value} {D : SlotK → Int} {F : Nat → Prop} {P : List (SlotK × Int)} {C ct : Int} {j : Nat}
    (h : cp.St w wx p id epoch b dn none D F P C ct j) (x : SlotK) (L : List Nat) (nr : Nat) (hnr : nr ≤ 1000) (hL : L.length ≤ 65536) (A : Option Addr) (c M : Nat)
    (hown : wy.ownsRow M 5 1 (.slice A L.length c) L.length (u8s L)) (hM : wx.heap.size ≤ M)
    (hcn : CnAt wy p id epoch (C + 1) (some ⟨C + 1, x.s, x.p, L, (nr : Int)⟩) D (fun k => (F k ∨ wx.heap.size ≤ k) ∧ k < M) j) (hc : Chg wx wy F) (hz : Chg wy wz (fun k => k = b ∨ k = g))
    (hgw : w.heap.size ≤ g) (hgF : ¬ F g) (hg2 : g < wx.heap.size ∨ wy.heap.size ≤ g) (hgd : dn.ownBlock ≠ some g)
    (hblk : Blk wz b 35 (cn.req (C + 1) x.s x.p (.slice A L.length c))) :
    cp.St w wz p id epoch b dn (some ⟨C + 1, x.s, x.p, L, (nr : Int)⟩) D (fun k => (F k ∨ wx.heap.size ≤ k) ∧ k < M) P (C + 1) (nr : Int) (j + 1) := by
  obtain ⟨cs, hs, hb⟩ := h.now.blk
  have hbx := hb.lt
  have hap := h.apart
  have hF : ¬ ((F b ∨ wx.heap.size ≤ b) ∧ b < M) := fun q => q.1.elim h.box fun q => by omega
  have hFg : ∀ k, (F k ∨ wx.heap.size ≤ k) ∧ k < M → k ≠ g := fun k hk e => by
    subst e
    rcases hg2 with q | q
    · exact hk.1.elim hgF fun q2 => by omega
    · have := hcn.lt.2 k hk
      omega
  have hsz := h.below.size
  refine ⟨(hcn.keep hz fun k hk e => e.elim (fun e => hF (by rw [← show k = b from e]; exact hk)) fun e => hFg k hk e).up (by omega), h.pl, (h.row.chg hc h.rowF).chg hz fun k hk e => e.elim (fun e => hap (by rw [← show k = b from e]; exact hk)) fun e => hgd (by rw [← show k = g from e]; exact hk), by have := h.len; omega, by have := h.corr; omega, fun x => by have := h.many x; omega,
    ⟨rfl, rfl, by omega, hL, ⟨x, rfl, rfl⟩, A, c, hblk, hz.own (ownsRow_base hown (Nat.zero_le _)) fun k hk e => ?_, fun g hg q => ?_⟩, hF, fun g hg q => ?_, fun g hg => ?_, h.old, ?_⟩
  · have h1 := hown.lt k hk
    have e : k = b ∨ k = g := e
    omega
  · have h1 := (hown.lt g hg).1
    have h2 := q.2
    omega
  · have h1 := (h.row.lt hg).2
    exact q.1.elim (h.rowF g hg) fun q => by omega
  · exact hg.1.elim (h.fresh g) fun q => by omega
  · have a1 : Chg w wx (fun k => w.heap.size ≤ k) := chg_of h.below
    have a2 : Chg w wy (fun k => w.heap.size ≤ k) := a1.trans hc fun k _ hk => h.fresh k hk
    exact (a2.trans hz fun k _ hk => by rcases hk with hk | hk <;> rw [hk]; exact h.old; exact hgw).below (Nat.le_refl _) fun _ q => q
/-- It was refused for good. -/
theorem cp.St.drop {w wx wy : World} {p : Nat} {id epoch : Int} {b : Nat} {dn : Value} {u : Option CSent} {D : SlotK → Int} {F : Nat → Prop} {P : List (SlotK × Int)} {C ct : Int} {j : Nat}
    (h : cp.St w wx p id epoch b dn u D F P C ct j) (hcn : CnAt wy p id epoch C none D F j) (hc : Chg wx wy F) : cp.St w wy p id epoch b dn none D F P C ct (j + 1) := by
  obtain ⟨cs, hs, hb⟩ := h.now.blk
  have a1 : Chg w wx (fun k => w.heap.size ≤ k) := chg_of h.below
  exact ⟨hcn.up (by omega), h.pl, h.row.chg hc h.rowF, by have := h.len; omega, by have := h.corr; omega, fun x => by have := h.many x; omega, ⟨cs, hs, hc.blk hb h.box⟩, h.box, h.rowF, h.fresh, h.old,
    (a1.trans hc fun k _ hk => h.fresh k hk).below (Nat.le_refl _) fun _ q => q⟩
/-- It was done. -/
theorem cp.St.done {w wx wy wz : World} {p : Nat} {id epoch : Int} {b : Nat} {dn dn' : Value} {u : Option CSent} {D : SlotK → Int} {F Q : Nat → Prop} {P P' : List (SlotK × Int)} {C ct ct' : Int} {j : Nat}
    (h : cp.St w wx p id epoch b dn u D F P C ct' j) (x : SlotK) (hct : 0 ≤ ct ∧ ct ≤ 1000) (hcn : CnAt wy p id epoch C none (cn.upd D x (D x + ct)) F (j + 1)) (hc : Chg wx wy F) (hz : Chg wy wz Q) (hQF : ∀ g, Q g → ¬ F g ∧ g ≠ b ∧ w.heap.size ≤ g)
    (hpl : PL (cn.upd D x (D x + ct)) P') (hrow : PlAt wz w.heap.size dn' P') (hlen : P'.length ≤ j + 1) (hrF : ∀ g, dn'.ownBlock = some g → ¬ F g) : cp.St w wz p id epoch b dn' none (cn.upd D x (D x + ct)) F P' C ct' (j + 1) := by
  obtain ⟨cs, hs, hb⟩ := h.now.blk
  have a1 : Chg w wx (fun k => w.heap.size ≤ k) := chg_of h.below
  refine ⟨hcn.keep hz fun k hk q => (hQF k q).1 hk, hpl, hrow, hlen, by have := h.corr; omega, fun y => ?_, ⟨cs, hs, hz.blk (hc.blk hb h.box) fun q => (hQF b q).2.1 rfl⟩, h.box, hrF, h.fresh, h.old,
    ((a1.trans hc fun k _ hk => h.fresh k hk).trans hz fun k _ hk => (hQF k hk).2.2).below (Nat.le_refl _) fun _ q => q⟩
  unfold cn.upd
  have h1 := h.many x
  have h2 := h.many y
  split <;> omega

/-- Whether x stands among the first q places. -/
def pl.Met (P : List (SlotK × Int)) (x : SlotK) (q : Nat) (m : Bool) : Prop := (m = false ∧ ∀ (i : Nat) (k : SlotK × Int), i < q → P[i]? = some k → k.1 ≠ x) ∨ (m = true ∧ ∃ k ∈ P, k.1 = x)
theorem pl.met_zero (P : List (SlotK × Int)) (x : SlotK) : pl.Met P x 0 false := .inl ⟨rfl, fun _ _ h => absurd h (Nat.not_lt_zero _)⟩
theorem pl.met_yes {P : List (SlotK × Int)} {x : SlotK} {q : Nat} {k : SlotK × Int} (hk : P[q]? = some k) (h : k.1 = x) : pl.Met P x (q + 1) true := .inr ⟨rfl, k, List.mem_of_getElem? hk, h⟩
theorem pl.met_no {P : List (SlotK × Int)} {x : SlotK} {q : Nat} {m : Bool} {k : SlotK × Int} (h : pl.Met P x q m) (hk : P[q]? = some k) (hn : k.1 ≠ x) : pl.Met P x (q + 1) m := by
  rcases h with ⟨h1, h2⟩ | h
  · refine .inl ⟨h1, fun i k' hi hk' => ?_⟩
    rcases Nat.lt_or_ge i q with h | h
    · exact h2 i k' h hk'
    · obtain rfl : i = q := by omega
      rw [hk] at hk'
      obtain rfl : k = k' := Option.some.inj hk'
      exact hn
  · exact .inr h
theorem pl.met_all {P : List (SlotK × Int)} {x : SlotK} {m : Bool} (h : pl.Met P x P.length m) : (m = false ∧ ∀ k ∈ P, k.1 ≠ x) ∨ (m = true ∧ ∃ k ∈ P, k.1 = x) := by
  rcases h with ⟨h1, h2⟩ | h
  · refine .inl ⟨h1, fun k hk => ?_⟩
    obtain ⟨i, hi⟩ := List.mem_iff_getElem?.1 hk
    exact h2 i k (List.getElem?_eq_some_iff.1 hi).1 hi
  · exact .inr h
/-- Where nothing of x stands, nothing is turned. -/
theorem pl.bump_none {P : List (SlotK × Int)} {x : SlotK} {c : Int} (h : ∀ k ∈ P, k.1 ≠ x) (q : Nat) : pl.bump P x c q = P := by
  unfold pl.bump
  apply List.ext_getElem?
  intro i
  rw [List.getElem?_mapIdx]
  cases hx : P[i]? with
  | none => rfl
  | some k => simp [h k (List.mem_of_getElem? hx)]
theorem RowR.block {w : World} {B n c : Nat} {A : Option Addr} {rs : List Rec} (h : RowR w B (.slice A n c) rs) (hn : 0 < rs.length) : ∃ g, A = some ⟨g, 0, none⟩ ∧ B ≤ g ∧ g < w.heap.size ∧ ∀ q, w.frozen? ⟨g, q, none⟩ = false := by
  obtain ⟨xs, h1, -⟩ := h
  have h0 := h1
  rcases h1.2 with ⟨h6, h7⟩ | ⟨g', cap, cur, h6, h7, h8, -⟩
  · exfalso; omega
  · have e6 : A = some ⟨g', 0, none⟩ := by injection h6
    exact ⟨g', e6, h7, (h0.lt g' (by rw [e6]; rfl)).2, fun q => Blk.frozen (T := 44) h8 q⟩
end Go.Proofs.Ytahncanmfjmfnaa

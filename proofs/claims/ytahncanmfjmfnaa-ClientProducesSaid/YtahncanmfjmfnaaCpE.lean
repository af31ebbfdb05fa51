/- The law ClientProduces: what its calls answer, whichever way a step goes. -/
import Derived.Test.YtahncanmfjmfnaaCpC
namespace Go.Proofs.Ytahncanmfjmfnaa
open Go.RowKit Go.Maps
set_option maxRecDepth 100000

/-- What Make says and does: it waits, it refuses, or it makes a batch of L. -/
def cp.Raw (p : Nat) (id epoch : Int) (u : Option CSent) (D : SlotK → Int) (F : Nat → Prop) (C : Int) (key : SlotK) (L : List Nat) (nr : Nat) (ck : Int) (j : Nat) (wx wy : World) (z : Array Value) (f : Int) : Prop :=
  (((u.isSome = true ∧ f = 14) ∨ (u.isSome = false ∧ (nr = 0 ∨ ck ≠ 0) ∧ f = 1)) ∧ Below wx.heap.size wx wy) ∨
  (u.isSome = false ∧ 0 < nr ∧ ck = 0 ∧ f = 0 ∧ ∃ A c M, z = cn.req (C + 1) key.s key.p (.slice A L.length c) ∧ wy.ownsRow M 5 1 (.slice A L.length c) L.length (u8s L) ∧ wx.heap.size ≤ M ∧
    CnAt wy p id epoch (C + 1) (some ⟨C + 1, key.s, key.p, L, (nr : Int)⟩) D (fun k => (F k ∨ wx.heap.size ≤ k) ∧ k < M) j ∧ Chg wx wy F)
theorem cp.Raw.chg {p : Nat} {id epoch : Int} {u : Option CSent} {D : SlotK → Int} {F : Nat → Prop} {C : Int} {key : SlotK} {L : List Nat} {nr : Nat} {ck : Int} {j : Nat} {wx wy : World} {z : Array Value} {f : Int}
    (h : cp.Raw p id epoch u D F C key L nr ck j wx wy z f) : Chg wx wy F := by
  rcases h with ⟨-, h⟩ | ⟨-, -, -, -, A, c, M, -, -, -, -, h⟩
  · exact chg_of h
  · exact h
theorem cn.bat_len {id epoch seq : Int} {rs : List Rec} (h : (cn.bat id epoch seq rs).check = 0) : (cn.bat id epoch seq rs).bytes.length ≤ 65536 := (Bat.summed_le h).2.1
theorem cp.raw_any (p : Nat) (id epoch : Int) (u : Option CSent) (D : SlotK → Int) (F : Nat → Prop) (C : Int) (j : Nat) (key : SlotK) (rs : List Rec) (A : Option Addr) (c : Nat) (wx : World) (h : CnAt wx p id epoch C u D F j) (hv : RecsV wx (.slice A rs.length c) rs) (hl : rs.length ≤ 1000) (hC : 0 ≤ C ∧ C ≤ 1000000) :
    Calls Try.prog 13 #[.pointer (some ⟨p, 0, none⟩), .string key.s, .int .i64 key.p, .slice A rs.length c] wx fun e w' => ∃ z f, e = .returned (.tuple #[.agg z, .int .i64 f]) ∧ (z.size = 13 ∧ z.all (fun v => v.oneCell') = true) ∧
      cp.Raw p id epoch u D F C key (cn.bat id epoch (D key) rs).bytes rs.length (cn.bat id epoch (D key) rs).check j wx w' z f := by
  cases u with
  | some s =>
    refine (cn.make_wait p id epoch C s D F j key.s key.p _ wx h).mono ?_
    rintro e w' ⟨rfl, h1⟩
    exact ⟨_, _, rfl, ⟨rfl, by simp [cn.zero, Value.oneCell']⟩, .inl ⟨.inl ⟨rfl, rfl⟩, h1⟩⟩
  | none =>
    by_cases hb : rs.length = 0 ∨ (cn.bat id epoch (D key) rs).check ≠ 0
    · refine (cn.make_bad p id epoch C D F j key A c rs wx h hv hl hb).mono ?_
      rintro e w' ⟨rfl, h1⟩
      exact ⟨_, _, rfl, ⟨rfl, by simp [cn.zero, Value.oneCell']⟩, .inl ⟨.inr ⟨rfl, hb, rfl⟩, h1⟩⟩
    · have h0 : 0 < rs.length := by have := mt Or.inl hb; omega
      have h1 : (cn.bat id epoch (D key) rs).check = 0 := Decidable.not_not.1 (mt Or.inr hb)
      refine (cn.make_ok p id epoch C D F j key A c rs wx h hv hl h0 h1 (by omega)).mono ?_
      rintro e w' ⟨A2, c2, M, rfl, h2, h3, h4, h5⟩
      exact ⟨_, _, rfl, ⟨rfl, by simp [cn.req, Value.oneCell']⟩, .inr ⟨rfl, h0, h1, rfl, A2, c2, M, rfl, h2, h3, h4, h5⟩⟩
/-- The same, said of the law's state. -/
def cp.Made (w : World) (p : Nat) (id epoch : Int) (b : Nat) (dn : Value) (u : Option CSent) (D : SlotK → Int) (F : Nat → Prop) (P : List (SlotK × Int)) (C ct : Int) (j : Nat) (key : SlotK) (L : List Nat) (nr : Nat) (ck : Int) (wz : World) (z : Array Value) (f : Int) : Prop :=
  (((u.isSome = true ∧ f = 14) ∨ (u.isSome = false ∧ (nr = 0 ∨ ck ≠ 0) ∧ f = 1)) ∧ cp.St w wz p id epoch b dn u D F P C ct j) ∨
  (u.isSome = false ∧ 0 < nr ∧ ck = 0 ∧ f = 0 ∧ ∃ A c F', z = cn.req (C + 1) key.s key.p (.slice A L.length c) ∧ (L.length ≤ c ∧ c ≤ maxLen) ∧ At wz A L.length (byteAt L) ∧
    ∀ wv, Chg wz wv (fun k => k = b) → Blk wv b 35 z → cp.St w wv p id epoch b dn (some ⟨C + 1, key.s, key.p, L, (nr : Int)⟩) D F' P (C + 1) (nr : Int) (j + 1))
theorem cp.fin {w w5 wx wy wz : World} {p : Nat} {id epoch : Int} {b : Nat} {dn : Value} {u : Option CSent} {D : SlotK → Int} {F : Nat → Prop} {P : List (SlotK × Int)} {C ct : Int} {j : Nat} {key : SlotK} {L : List Nat} {nr : Nat} {ck : Int} {z : Array Value} {f : Int} {g : Nat}
    (h : cp.St w w5 p id epoch b dn u D F P C ct j) (h5 : Chg w5 wx (fun _ => False)) (hr : cp.Raw p id epoch u D F C key L nr ck j wx wy z f) (hz : Chg wy wz (fun k => k = g)) (hg : w5.heap.size ≤ g) (hg2 : g < wx.heap.size ∨ wy.heap.size ≤ g) (hnr : nr ≤ 1000) (hL : ck = 0 → L.length ≤ 65536) :
    cp.Made w p id epoch b dn u D F P C ct j key L nr ck wz z f ∧ Chg w5 wz F := by
  have hFg : ¬ F g := fun q => by have := h.cn.lt.2 g q; omega
  have hc5 : Chg w5 wz F := ((h5.mono (Q := F) fun _ _ q => q.elim).trans hr.chg fun _ _ q => q).trans hz fun k hk q => absurd hk (by rw [show k = g from q]; omega)
  refine ⟨?_, hc5⟩
  rcases hr with ⟨h1, h2⟩ | ⟨h1, h2, h3, h4, A, c, M, h6, h7, h8, h9, h10⟩
  · refine .inl ⟨h1, h.keep ?_⟩
    exact (h5.trans (chg_of (P := fun _ => False) h2) fun _ _ q => q).trans hz fun k hk q => absurd hk (by rw [show k = g from q]; omega)
  · have hbw : b < w5.heap.size := by obtain ⟨cs, -, hb⟩ := h.now.blk; exact hb.lt
    have hgb : ∀ k, (Value.slice A L.length c).ownBlock = some k → k ≠ g := fun k hk e => by have := h7.lt k hk; omega
    have hoz := hz.own h7 fun k hk q => hgb k hk q
    obtain ⟨A9, c9, e9, h11, -, h12⟩ := own_bytes hoz
    obtain ⟨rfl, rfl⟩ : A = A9 ∧ c = c9 := by injection e9 with e1 e2 e3; exact ⟨e1, e3⟩
    have hs5 := h5.size
    refine .inr ⟨h1, h2, h3, h4, A, c, (fun k => (F k ∨ wx.heap.size ≤ k) ∧ k < M), h6, ⟨h11, own_cap hoz⟩, h12, fun wv hv hblk => ?_⟩
    have hu : u = none := by cases u with | none => rfl | some s => cases h1
    subst hu
    have hst := h.keep h5
    refine hst.make key L nr hnr (hL h3) A c M h7 h8 h9 h10 ((hz.mono (Q := fun k => k = b ∨ k = g) fun _ _ q => .inr q).trans hv fun _ _ q => .inl q) (by have := h.below.size; omega) hFg hg2 (fun e => by have := (h.row.lt e).2; omega) ?_
    rw [← h6]
    exact hblk
/-- What the reference writes of the same batch. -/
theorem cp.enc_any (b : Bat) (n : Nat) (hn : b.recs.length = n) (A : Option Addr) (c : Nat) (wx : World) (hv : RecsV wx (.slice A n c) b.recs) :
    Calls Try.prog 14 #[b.hval A n c] wx fun e w' => (∃ Ad m cd, e = .returned (.tuple #[.slice Ad m cd, .int .i64 b.check]) ∧ (m ≤ cd ∧ cd ≤ maxLen) ∧ (b.check = 0 → m = b.bytes.length ∧ At w' Ad b.bytes.length (byteAt b.bytes))) ∧ Below wx.heap.size wx w' := by
  subst hn
  by_cases h0 : b.check = 0
  · refine (ref.Encode_any b A c wx hv h0).mono ?_
    rintro e w' ⟨v, rfl, h1, h2⟩
    obtain ⟨A9, c9, rfl, h3, -, h4⟩ := own_bytes h1
    exact ⟨⟨A9, _, c9, by rw [h0], ⟨h3, own_cap h1⟩, fun _ => ⟨rfl, h4⟩⟩, h2⟩
  · refine (ref.encode_err b A c wx hv h0).mono ?_
    rintro e w' ⟨rfl, h2⟩
    exact ⟨⟨none, 0, 0, rfl, ⟨Nat.le_refl _, Nat.zero_le _⟩, fun h => absurd h h0⟩, h2⟩
/-- What Done says and does, of the answer to the number C - r. -/
def cp.Did (w : World) (p : Nat) (id epoch : Int) (b : Nat) (dn : Value) (u : Option CSent) (D : SlotK → Int) (F : Nat → Prop) (P : List (SlotK × Int)) (C ct : Int) (j : Nat) (r code : Int) (wy : World) (n f : Int) : Prop :=
  ((u.isSome = false ∨ r ≠ 0) ∧ n = 0 ∧ f = 14 ∧ cp.St w wy p id epoch b dn u D F P C ct (j + 1)) ∨
  (u.isSome = true ∧ r = 0 ∧ code = 0 ∧ n = 5 ∧ f = 0 ∧ ∃ (x : SlotK) (A : Option Addr) (m c : Nat), Blk wy b 35 (cn.req C x.s x.p (.slice A m c)) ∧ (0 ≤ ct ∧ ct ≤ 1000) ∧ CnAt wy p id epoch C none (cn.upd D x (D x + ct)) F (j + 1)) ∨
  (u.isSome = true ∧ r = 0 ∧ (code = 7 ∨ code = 15 ∨ code = 4) ∧ n = 0 ∧ f = code ∧ cp.St w wy p id epoch b dn u D F P C ct (j + 1)) ∨
  (u.isSome = true ∧ r = 0 ∧ ¬ (code = 7 ∨ code = 15 ∨ code = 4) ∧ code ≠ 0 ∧ n = 0 ∧ f = code ∧ cp.St w wy p id epoch b dn none D F P C ct (j + 1))
theorem cp.did_any {w wx : World} {p : Nat} {id epoch : Int} {b : Nat} {dn : Value} {u : Option CSent} {D : SlotK → Int} {F : Nat → Prop} {P : List (SlotK × Int)} {C ct : Int} {j : Nat} (r code : Int) (h : cp.St w wx p id epoch b dn u D F P C ct j) (hj : j ≤ 1000) :
    Calls Try.prog 15 #[.pointer (some ⟨p, 0, none⟩), .agg (cn.resp (C - r) code 5 (.slice none 0 0))] wx fun e w' => ∃ n f, e = .returned (.tuple #[.int .i64 n, .int .i64 f]) ∧ Chg wx w' F ∧ cp.Did w p id epoch b dn u D F P C ct j r code w' n f := by
  cases u with
  | none =>
    refine (cn.done_none p id epoch C D F j _ wx h.cn).mono ?_
    rintro e w' ⟨rfl, h1⟩
    exact ⟨_, _, rfl, chg_of h1, .inl ⟨.inl rfl, rfl, rfl, (h.keep (chg_of h1)).next⟩⟩
  | some s =>
    obtain ⟨hsC, hsct, hct, hsl, ⟨x, hx1, hx2⟩, A, c, hblk, -, -⟩ := h.now
    subst hsC
    by_cases hr : r = 0
    · subst hr
      rw [Int.sub_zero]
      have hcn := h.cn
      by_cases h0 : code = 0
      · subst h0
        refine (cn.done_ok p id epoch s.corr s D F j x ⟨hx1, hx2⟩ 5 none 0 0 wx hcn (by omega) (by have := h.many x; omega) (by omega)).mono ?_
        rintro e w' ⟨rfl, h1, h2⟩
        rw [hsct] at h1
        rw [hx1, hx2] at hblk
        exact ⟨_, _, rfl, h2, .inr (.inl ⟨rfl, rfl, rfl, rfl, rfl, x, A, _, c, h2.blk hblk h.box, hct, h1⟩)⟩
      · by_cases ha : code = 7 ∨ code = 15 ∨ code = 4
        · refine (cn.done_again p id epoch s.corr s D F j 5 none 0 0 wx hcn code ha).mono ?_
          rintro e w' ⟨rfl, h1⟩
          exact ⟨_, _, rfl, chg_of h1, .inr (.inr (.inl ⟨rfl, rfl, ha, rfl, rfl, (h.keep (chg_of h1)).next⟩))⟩
        · refine (cn.done_bad p id epoch s.corr s D F j 5 none 0 0 wx hcn code ha h0).mono ?_
          rintro e w' ⟨rfl, h1, h2⟩
          exact ⟨_, _, rfl, h2, .inr (.inr (.inr ⟨rfl, rfl, ha, h0, rfl, rfl, h.drop h1 h2⟩))⟩
    · refine (cn.done_other p id epoch s.corr s D F j 5 none 0 0 wx h.cn code (s.corr - r) (by omega)).mono ?_
      rintro e w' ⟨rfl, h1⟩
      exact ⟨_, _, rfl, chg_of h1, .inl ⟨.inr hr, rfl, rfl, (h.keep (chg_of h1)).next⟩⟩
/-- What Retry tells: the request under way, anew. -/
theorem cp.retry_any {w wx : World} {p : Nat} {id epoch : Int} {b : Nat} {dn : Value} {u : Option CSent} {D : SlotK → Int} {F : Nat → Prop} {P : List (SlotK × Int)} {C ct : Int} {j : Nat} (h : cp.St w wx p id epoch b dn u D F P C ct j) :
    Calls Try.prog 16 #[.pointer (some ⟨p, 0, none⟩)] wx fun e w' => ∃ z, e = .returned (.tuple #[.agg z, .bool u.isSome]) ∧ (z.size = 13 ∧ z.all (fun v => v.oneCell') = true) ∧ Below wx.heap.size wx w' ∧
      ∀ s, u = some s → ∃ A c, z = cn.req C s.topic s.part (.slice A s.data.length c) ∧ (s.data.length ≤ c ∧ c ≤ maxLen) ∧ At w' A s.data.length (byteAt s.data) := by
  cases u with
  | none =>
    refine (cn.retry_none p id epoch C D F j wx h.cn).mono ?_
    rintro e w' ⟨rfl, h1⟩
    exact ⟨_, rfl, ⟨rfl, by simp [cn.zero, Value.oneCell']⟩, h1, fun s e => by cases e⟩
  | some s =>
    obtain ⟨hsC, -, -, hsl, -⟩ := h.now
    refine (cn.retry_some p id epoch C s D F j wx h.cn hsl).mono ?_
    rintro e w' ⟨A, c, rfl, h1, h2⟩
    obtain ⟨A9, c9, e9, h3, -, h4⟩ := own_bytes h1
    obtain ⟨rfl, rfl⟩ : A = A9 ∧ c = c9 := by injection e9 with e1 e2 e3; exact ⟨e1, e3⟩
    refine ⟨_, rfl, ⟨rfl, by simp [cn.req, Value.oneCell']⟩, h2, fun s' e => ?_⟩
    obtain rfl : s = s' := Option.some.inj e
    exact ⟨A, c, by rw [hsC], ⟨h3, own_cap h1⟩, h4⟩
/-- Records stay as they are where another block is turned that holds no bytes. -/
theorem RowR.other {w w' : World} {B b : Nat} {v : Value} {rs : List Rec} {T : TypeId} {cs : Array Value} (h : RowR w B v rs) (hc : Chg w w' (fun k => k = b)) (hb : Blk w b T cs) (hT : T ≠ 44) (hne : ∀ (j : Nat) (u : Value), cs[j]? = some u → ∀ k, u ≠ .int .u8 k) : RowR w' B v rs := by
  obtain ⟨xs, h1, h2⟩ := h
  have key : ∀ {kv : Value} {L : List Nat}, KeyR w B v kv L → KeyR w' B v kv L := fun {kv L} k => by
    obtain ⟨⟨A, c, rfl, k1, k2, k3, k4⟩, k5⟩ := k
    refine ⟨⟨A, c, rfl, ?_, k2, k3, k4⟩, fun g hg => ⟨(k5 g hg).1, Nat.lt_of_lt_of_le (k5 g hg).2.1 hc.size, (k5 g hg).2.2⟩⟩
    exact hc.at' k1 fun hn b' off hA e => k1.not_blk hn hb (fun j u hj => by unfold byteAt; exact hne j u hj _) b' off hA e
  refine ⟨xs, hc.own h1 fun k hk e => hb.not_row hT h1 (by rw [← show k = b from e]; exact hk), fun i r hr => ?_⟩
  obtain ⟨kv, vv, e, k1, k2, k3⟩ := h2 i r hr
  exact ⟨kv, vv, e, key k1, key k2, k3⟩
theorem RowR.at0 {w : World} {B g n c : Nat} {rs : List Rec} (h : RowR w B (.slice (some ⟨g, 0, none⟩) n c) rs) {j : Nat} {r : Rec} (hr : rs[j]? = some r) : ∃ v, w.cell? ⟨g, j * 6, none⟩ = some v := by
  obtain ⟨xs, h1, -⟩ := h
  obtain ⟨A9, c9, e9, -, hat⟩ := own_at h1
  have hj : j < rs.length := (List.getElem?_eq_some_iff.1 hr).1
  obtain ⟨b, off, eA, -, hc⟩ := hat (by omega)
  injection e9 with e1 e2 e3
  rw [eA] at e1
  obtain ⟨rfl, rfl⟩ : g = b ∧ 0 = off := by simpa using e1
  exact ⟨_, by have := hc (j * 6) (by omega); rw [Nat.zero_add] at this; exact this⟩
theorem cp.infoPlace : (Try.prog.info? 37).map (fun i => (i.zero, i.size, i.bytes)) = some (some (.agg #[.string (ByteArray.mk #[]), .int .i64 0, .int .i64 0]), 3, 32) := by kernel_rfl
end Go.Proofs.Ytahncanmfjmfnaa

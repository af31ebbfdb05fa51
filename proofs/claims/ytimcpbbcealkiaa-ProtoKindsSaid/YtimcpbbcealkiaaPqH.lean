/- proto: decodeRest (chapter 20). -/
import Derived.BigQuiet
import Derived.Test.YtimcpbbcealkiaaPqG
import Derived.Test.YtimcpbbcealkiaaLmA
import Derived.Test.YtimcpbbcealkiaaPlanE
namespace Go.Proofs.Ytimcpbbcealkiaa
open Go.RowKit Go.Maps
set_option maxRecDepth 20000

def pq.zero : Array Value := #[.int .i64 0, .int .i64 0, .string (ByteArray.mk #[]), .string (ByteArray.mk #[]), .int .i64 0, .int .i64 0, .int .i64 0, .int .i64 0, .string (ByteArray.mk #[]), .string (ByteArray.mk #[]), .int .i64 0, .slice none 0 0, .slice none 0 0]
theorem pq.infoReq : (Try.prog.info? 25).map (·.size) = some 13 := by kernel_rfl
theorem pq.blk_row {w : World} {p : Nat} {T : TypeId} {cs : Array Value} (h : Blk w p T cs) (c2 : Array Value) : Blk (w.setRow p c2) p T c2 := setRow_heap w p cs c2 T _ h
theorem pq.chg_row (w : World) (g : Nat) (cs : Array Value) : Chg w (w.setRow g cs) (fun k => k = g) := ⟨rfl, rfl, rfl, by simp, fun k _ hk => setRow_other w g k cs hk⟩
theorem num.gt_u (bs : Nat → Nat) (n : Nat) : ∀ (k i u v m : Nat), i + k = 10 → u < 128 ^ i → num.gt bs n k i u = some (v, m) → v < 2 * 128 ^ 9
  | 0, i, u, v, m, _, _, h => by simp [num.gt] at h
  | k + 1, i, u, v, m, hi, hu, h => by
    rw [num.gt] at h
    split at h
    · cases h
    · split at h
      · cases h
      · rename_i h9
        split at h
        · refine num.gt_u bs n k (i + 1) _ v m (by omega) ?_ h
          have h1 : bs i % 128 * 128 ^ i ≤ 127 * 128 ^ i := Nat.mul_le_mul_right _ (by omega)
          rw [Nat.pow_succ]
          omega
        · split at h
          · cases h
          · simp only [Option.some.injEq, Prod.mk.injEq] at h
            rw [← h.1]
            exact (num.top u (bs i) i hu (by omega) h9).2
theorem rd.num_bd (L : List Nat) (e : Int) : pq.int (rd.num L e).1 := by
  unfold rd.num pq.int
  split
  · omega
  · split
    · omega
    · rename_i u k hg
      have h1 := num.gt_u (fun j => L.getD j 0) L.length 10 0 0 u k rfl (by omega) hg
      unfold num.zag
      dsimp only
      split <;> omega
theorem rd.texts_size : ∀ (k : Nat) (L : List Nat) (e : Int), ∀ s ∈ (rd.texts k L e).1, s.size ≤ 100
  | 0, _, _, s, h => by cases h
  | k + 1, L, e, s, h => by
    rw [rd.texts] at h
    rcases List.mem_cons.1 h with rfl | h
    · rw [strOf_size]
      have h1 : ((rd.piece L e 100).1.length : Int) ≤ 100 := by
        unfold rd.piece rd.cut
        split
        · simp
        · split
          · simp
          · split
            · simp
            · rw [List.length_take]
              omega
      omega
    · exact rd.texts_size k _ _ s h
theorem pq.list_size {most : Int} {L : List Nat} {e : Int} : ∀ s ∈ (pq.list most L e).1, s.size ≤ 100 := by
  intro s hs
  unfold pq.list at hs
  split at hs
  · cases hs
  · exact rd.texts_size _ _ _ s hs
theorem pq.strsV {w : World} {B n c : Nat} {A : Option Addr} {l : List ByteArray} (h : w.ownsRow B 9 1 (.slice A n c) n (l.map fun s => .string s)) (hl : l.length = n) (hs : ∀ s ∈ l, s.size ≤ maxLen) : StrsV w (.slice A l.length c) l := by
  subst hl
  obtain ⟨A9, c9, e9, hc, hat⟩ := own_at h
  obtain ⟨rfl, rfl⟩ : A = A9 ∧ c = c9 := by injection e9 with e1 e2 e3; exact ⟨e1, e3⟩
  rw [Nat.mul_one] at hat
  exact ⟨A, c, rfl, hat.congr fun j hj => by simp [List.getD, hj], hc, own_cap h, hs⟩
theorem rd.piece_len {L : List Nat} {e most : Int} (hm : 0 ≤ most) : ((rd.piece L e most).1.length : Int) ≤ most := by
  unfold rd.piece rd.cut
  split
  · simpa using hm
  · split
    · simpa using hm
    · split
      · simpa using hm
      · rw [List.length_take]
        omega
theorem rd.piece_rest (L : List Nat) (e most : Int) : (rd.piece L e most).2.1.length ≤ L.length := by
  have h := rd.num_le L e
  unfold rd.piece rd.cut
  split
  · exact h
  · split
    · exact Nat.zero_le _
    · split
      · exact Nat.zero_le _
      · rw [List.length_drop]
        omega
theorem rd.texts_rest : ∀ (k : Nat) (L : List Nat) (e : Int), (rd.texts k L e).2.1.length ≤ L.length
  | 0, _, _ => Nat.le_refl _
  | k + 1, L, e => Nat.le_trans (rd.texts_rest k _ _) (rd.piece_rest L e 100)
theorem pq.list_rest (most : Int) (L : List Nat) (e : Int) : (pq.list most L e).2.1.length ≤ L.length := by
  have h := rd.num_le L e
  unfold pq.list
  split
  · exact h
  · exact Nat.le_trans (rd.texts_rest _ _ _) h
theorem rd.piece_mem {L : List Nat} {e most : Int} : ∀ x ∈ (rd.piece L e most).1, x ∈ L := by
  intro x hx
  unfold rd.piece rd.cut at hx
  have hsub : ∀ y ∈ (rd.num L e).2.1, y ∈ L := fun y hy => by
    unfold rd.num at hy
    split at hy
    · exact hy
    · split at hy
      · cases hy
      · exact List.mem_of_mem_drop hy
  split at hx
  · cases hx
  · split at hx
    · cases hx
    · split at hx
      · cases hx
      · exact hsub x (List.mem_of_mem_take hx)
/-- What stands behind a request's kind and number; the error. -/
def pq.rest (kind corr : Int) (L : List Nat) (e : Int) : PReq × Int :=
  let a := rd.piece L e 100
  let b := rd.piece a.2.1 a.2.2 100
  let c := rd.num b.2.1 b.2.2
  let d := rd.num c.2.1 c.2.2
  let f := rd.num d.2.1 d.2.2
  let g := rd.num f.2.1 f.2.2
  let h := rd.piece g.2.1 g.2.2 100
  let i := rd.piece h.2.1 h.2.2 100
  let j := rd.num i.2.1 i.2.2
  let k := pq.list 30 j.2.1 j.2.2
  if k.2.2 ≠ 0 then (⟨0, 0, ByteArray.mk #[], ByteArray.mk #[], 0, 0, 0, 0, ByteArray.mk #[], ByteArray.mk #[], 0, [], []⟩, k.2.2) else
  let l := rd.piece k.2.1 0 65536
  (⟨kind, corr, strOf a.1, strOf b.1, c.1, d.1, f.1, g.1, strOf h.1, strOf i.1, j.1, k.1, l.1⟩, if 0 < l.2.1.length then 2 else l.2.2)
/-- Under way: the boxes of the reader's place, of the request and of the answer, the reader. -/
structure pq.Dst (w v : World) (r b0 b1 b2 : Nat) (cs : Array Value) (L : List Nat) (e : Int) : Prop where
  p : Blk v b0 73 #[.pointer (some ⟨r, 0, none⟩)]
  q : Blk v b1 25 cs
  z : Blk v b2 25 pq.zero
  rd : RdQ (fun k => k < w.heap.size) v r L e
  chg : Chg w v (rdT r)
  low : r < w.heap.size ∧ w.heap.size ≤ b0 ∧ w.heap.size ≤ b1 ∧ w.heap.size ≤ b2 ∧ b0 ≠ b1 ∧ b1 ≠ b2 ∧ b0 ≠ b2
theorem pq.Dst.call {w v v1 : World} {r b0 b1 b2 : Nat} {cs : Array Value} {L L1 : List Nat} {e e1 : Int} (h : pq.Dst w v r b0 b1 b2 cs L e) (h1 : RdQ (fun k => k < w.heap.size) v1 r L1 e1) (h2 : Chg v v1 (rdT r)) : pq.Dst w v1 r b0 b1 b2 cs L1 e1 := by
  have hl := h.low
  have hn : ∀ b, w.heap.size ≤ b → ¬ rdT r b := fun b hb e => by have e : b = r := e; omega
  exact ⟨h2.blk h.p (hn _ hl.2.1), h2.blk h.q (hn _ hl.2.2.1), h2.blk h.z (hn _ hl.2.2.2.1), h1, h.chg.trans h2 fun _ _ q => q, hl⟩
theorem pq.Dst.store {w v : World} {r b0 b1 b2 : Nat} {cs : Array Value} {L : List Nat} {e : Int} (h : pq.Dst w v r b0 b1 b2 cs L e) (i : Nat) (x : Value) : pq.Dst w (v.setCell ⟨b1, i, none⟩ x) r b0 b1 b2 (cs.setIfInBounds i x) L e := by
  obtain ⟨l1, l2, l3, l4, l5, l6, l7⟩ := h.low
  have hc := Chg.setCell v b1 i x
  exact ⟨hc.blk h.p l5, h.q.set i x, hc.blk h.z fun e => l6 e.symm, h.rd.chg hc (fun e => by have e : r = b1 := e; omega) fun k hk e => by have e : k = b1 := e; omega, h.chg.trans hc fun k hk e => by have e : k = b1 := e; omega, h.low⟩
theorem rdq.left {Q : Nat → Prop} {r : Nat} {L : List Nat} {e : Int} {w : World} (h : RdQ Q w r L e) : Calls Try.prog 79 #[.pointer (some ⟨r, 0, none⟩)] w fun en w' => en = .returned (.int .i64 (L.length : Int)) ∧ w = w' := by
  obtain ⟨A, c, h, -⟩ := h
  exact wire.left_any r A c L e w h
theorem pq.ended_any {Q : Nat → Prop} {r : Nat} {L : List Nat} {e : Int} {w : World} (h : RdQ Q w r L e) : Calls Try.prog 68 #[.pointer (some ⟨r, 0, none⟩)] w fun en w' => en = .returned (.int .i64 (if 0 < L.length then 2 else e)) ∧ w = w' := by
  have hl := rdq.left h
  have he := rdq.err h
  obtain ⟨n, hn⟩ : ∃ n, n = L.length := ⟨_, rfl⟩
  rw [← hn] at hl ⊢
  have H := Lib.hid (And.intro hl he); clear hl he h hn
  by_cases h0 : 0 < n
  · have d0 : decide (0 < n) = true := decide_eq_true h0
    have d1 : decide (0 < (n : Int)) = true := decide_eq_true (by omega)
    rw [if_pos h0]
    go_enter Try.func68, Try.ntmps68
    go_wp2_with (go_at_call 79; refine H.out.1.mono ?_; rintro en w1 ⟨rfl, h3⟩; subst h3)
    go_ret
    exact ⟨rfl, rfl⟩
  · have d0 : decide (0 < n) = false := decide_eq_false h0
    have d1 : decide (0 < (n : Int)) = false := decide_eq_false (by omega)
    rw [if_neg h0]
    go_enter Try.func68, Try.ntmps68
    go_wp2_with (first
      | (go_at_call 79; refine H.out.1.mono ?_; rintro en w1 ⟨rfl, h3⟩; subst h3)
      | (go_at_call 60; refine H.out.2.mono ?_; rintro en w1 ⟨rfl, h3⟩; subst h3))
    go_ret
    exact ⟨rfl, rfl⟩

set_option maxHeartbeats 8000000 in
theorem pq.rest_any (kind corr : Int) (r : Nat) (L : List Nat) (e : Int) (w : World) (h : RdQ (fun k => k < w.heap.size) w r L e) (hk : pq.int kind) (hc : pq.int corr) (hL : L.length ≤ 140737488351232) :
    Calls Try.prog 41 #[.pointer (some ⟨r, 0, none⟩), .agg #[.int .i64 kind, .int .i64 corr, .string (ByteArray.mk #[]), .string (ByteArray.mk #[]), .int .i64 0, .int .i64 0, .int .i64 0, .int .i64 0, .string (ByteArray.mk #[]), .string (ByteArray.mk #[]), .int .i64 0, .slice none 0 0, .slice none 0 0]] w fun en w' => (∃ cs : Array Value, en = .returned (.tuple #[.agg cs, .int .i64 (pq.rest kind corr L e).2]) ∧ (cs.size = 13 ∧ cs.all (fun v => v.oneCell') = true) ∧
      ((pq.rest kind corr L e).2 = 0 → ∃ An cn Ad cd, cs = (pq.rest kind corr L e).1.cells An cn Ad cd ∧ ReqV w' An cn Ad cd (pq.rest kind corr L e).1 ∧ (∀ b off, An = some ⟨b, off, none⟩ → w.heap.size ≤ b) ∧ ∀ b off, Ad = some ⟨b, off, none⟩ → w.heap.size ≤ b)) ∧ Chg w w' (rdT r) := by
  obtain ⟨R, hR⟩ : ∃ R, R = pq.rest kind corr L e := ⟨_, rfl⟩
  rw [← hR]
  have hrw : r < w.heap.size := by obtain ⟨cs, hb⟩ := h.blk; exact hb.lt
  obtain ⟨b0, hb0⟩ : ∃ b, b = w.heap.size := ⟨_, rfl⟩
  obtain ⟨w3, hw3⟩ : ∃ w3, w3 = ((w.alloc (.cells #[.pointer (some ⟨r, 0, none⟩)] 73)).alloc (.cells #[.int .i64 kind, .int .i64 corr, .string (ByteArray.mk #[]), .string (ByteArray.mk #[]), .int .i64 0, .int .i64 0, .int .i64 0, .int .i64 0, .string (ByteArray.mk #[]), .string (ByteArray.mk #[]), .int .i64 0, .slice none 0 0, .slice none 0 0] 25)).alloc (.cells pq.zero 25) := ⟨_, rfl⟩
  have hst : pq.Dst w w3 r b0 (b0 + 1) (b0 + 2) #[.int .i64 kind, .int .i64 corr, .string (ByteArray.mk #[]), .string (ByteArray.mk #[]), .int .i64 0, .int .i64 0, .int .i64 0, .int .i64 0, .string (ByteArray.mk #[]), .string (ByteArray.mk #[]), .int .i64 0, .slice none 0 0, .slice none 0 0] L e := by
    rw [hw3, hb0]
    have a1 := Blk.new w 73 #[.pointer (some ⟨r, 0, none⟩)]
    have a2 := Blk.new (w.alloc (.cells #[.pointer (some ⟨r, 0, none⟩)] 73)) 25 #[.int .i64 kind, .int .i64 corr, .string (ByteArray.mk #[]), .string (ByteArray.mk #[]), .int .i64 0, .int .i64 0, .int .i64 0, .int .i64 0, .string (ByteArray.mk #[]), .string (ByteArray.mk #[]), .int .i64 0, .slice none 0 0, .slice none 0 0]
    have a3 := Blk.new ((w.alloc (.cells #[.pointer (some ⟨r, 0, none⟩)] 73)).alloc (.cells #[.int .i64 kind, .int .i64 corr, .string (ByteArray.mk #[]), .string (ByteArray.mk #[]), .int .i64 0, .int .i64 0, .int .i64 0, .int .i64 0, .string (ByteArray.mk #[]), .string (ByteArray.mk #[]), .int .i64 0, .slice none 0 0, .slice none 0 0] 25)) 25 pq.zero
    rw [World.size_alloc] at a2 a3
    rw [World.size_alloc] at a3
    have c1 := Chg.alloc w (.cells #[.pointer (some ⟨r, 0, none⟩)] 73) (fun _ => False)
    have c2 := Chg.alloc (w.alloc (.cells #[.pointer (some ⟨r, 0, none⟩)] 73)) (.cells #[.int .i64 kind, .int .i64 corr, .string (ByteArray.mk #[]), .string (ByteArray.mk #[]), .int .i64 0, .int .i64 0, .int .i64 0, .int .i64 0, .string (ByteArray.mk #[]), .string (ByteArray.mk #[]), .int .i64 0, .slice none 0 0, .slice none 0 0] 25) (fun _ => False)
    have c3 := Chg.alloc ((w.alloc (.cells #[.pointer (some ⟨r, 0, none⟩)] 73)).alloc (.cells #[.int .i64 kind, .int .i64 corr, .string (ByteArray.mk #[]), .string (ByteArray.mk #[]), .int .i64 0, .int .i64 0, .int .i64 0, .int .i64 0, .string (ByteArray.mk #[]), .string (ByteArray.mk #[]), .int .i64 0, .slice none 0 0, .slice none 0 0] 25)) (.cells pq.zero 25) (fun _ => False)
    have c123 := (c1.trans c2 fun _ _ q => q).trans c3 fun _ _ q => q
    exact ⟨c3.blk (c2.blk a1 fun q => q) fun q => q, c3.blk a2 fun q => q, a3, h.chg c123 (fun q => q) fun _ _ q => q, c123.mono fun _ _ q => q.elim, by omega, by omega, by omega, by omega, by omega, by omega, by omega⟩
  have HLL := Lib.hid hL; clear hL
  have HR := Lib.hid hR; clear hR
  have HKC := Lib.hid (And.intro hk (And.intro hc h)); clear hk hc h
  have hmf : ∀ (fn : Fn) (first cap : Array Value) (w : World), (Instr.makeFunc fn first cap).run Try.prog w = .ok (.func fn first cap) w := fun _ _ _ _ => rfl
  go_enter Try.func41, Try.ntmps41
  go_upto_region 1 with fail
  unfold pq.zero at hw3
  rw [← hw3, ← hb0]
  have D0 := Lib.hid hst; clear hst hw3 hb0
  have hcall0 := rdq.text _ r L e 100 w3 D0.out.rd
  obtain ⟨⟨X0, L0, e0⟩, hq0⟩ : ∃ q, rd.piece L e 100 = q := ⟨_, rfl⟩
  rw [hq0] at hcall0
  dsimp only at hcall0
  unfold TextQ at hcall0
  obtain ⟨x0, hx0⟩ : ∃ x, x = strOf X0 := ⟨_, rfl⟩
  rw [← hx0] at hcall0
  have hlen0 : x0.size ≤ 100 := by
    rw [hx0, strOf_size]
    have h1 := rd.piece_len (L := L) (e := e) (most := 100) (by omega)
    rw [hq0] at h1
    dsimp only at h1
    omega
  have HC0 := Lib.hid (And.intro hcall0 (And.intro hq0 (And.intro hx0 hlen0))); clear hcall0 hq0 hx0 hlen0
  have k0 := D0.out.p.cell 0 (v := .pointer (some ⟨r, 0, none⟩)) rfl
  have kl := D0.out.p.lt
  go_upto_region 2 with (go_at_call 63; refine HC0.out.1.mono ?_; rintro en u0 ⟨rfl, h1, h2⟩; have C0 := Lib.hid (D0.out.call h1 h2); clear h1 h2; have m0 := C0.out.q.cell 2 (v := .string (ByteArray.mk #[])) rfl; have m1 := C0.out.q.frozen 2; have m2 := C0.out.q.lt)
  clear k0 kl m0 m1 m2
  obtain ⟨v0, hv0⟩ : ∃ v, v = u0.setCell ⟨b0 + 1, 2, none⟩ (.string x0) := ⟨_, rfl⟩
  rw [← hv0]
  have hd0 : pq.Dst w v0 r b0 (b0 + 1) (b0 + 2) #[.int .i64 kind, .int .i64 corr, .string x0, .string (ByteArray.mk #[]), .int .i64 0, .int .i64 0, .int .i64 0, .int .i64 0, .string (ByteArray.mk #[]), .string (ByteArray.mk #[]), .int .i64 0, .slice none 0 0, .slice none 0 0] L0 e0 := by rw [hv0]; exact C0.out.store 2 _
  have D1 := Lib.hid hd0; clear hd0 hv0 C0 D0
  have hcall1 := rdq.text _ r L0 e0 100 v0 D1.out.rd
  obtain ⟨⟨X1, L1, e1⟩, hq1⟩ : ∃ q, rd.piece L0 e0 100 = q := ⟨_, rfl⟩
  rw [hq1] at hcall1
  dsimp only at hcall1
  unfold TextQ at hcall1
  obtain ⟨x1, hx1⟩ : ∃ x, x = strOf X1 := ⟨_, rfl⟩
  rw [← hx1] at hcall1
  have hlen1 : x1.size ≤ 100 := by
    rw [hx1, strOf_size]
    have h1 := rd.piece_len (L := L0) (e := e0) (most := 100) (by omega)
    rw [hq1] at h1
    dsimp only at h1
    omega
  have HC1 := Lib.hid (And.intro hcall1 (And.intro hq1 (And.intro hx1 hlen1))); clear hcall1 hq1 hx1 hlen1
  have k0 := D1.out.p.cell 0 (v := .pointer (some ⟨r, 0, none⟩)) rfl
  have kl := D1.out.p.lt
  go_upto_region 3 with (go_at_call 63; refine HC1.out.1.mono ?_; rintro en u1 ⟨rfl, h1, h2⟩; have C1 := Lib.hid (D1.out.call h1 h2); clear h1 h2; have m0 := C1.out.q.cell 3 (v := .string (ByteArray.mk #[])) rfl; have m1 := C1.out.q.frozen 3; have m2 := C1.out.q.lt)
  clear k0 kl m0 m1 m2
  obtain ⟨v1, hv1⟩ : ∃ v, v = u1.setCell ⟨b0 + 1, 3, none⟩ (.string x1) := ⟨_, rfl⟩
  rw [← hv1]
  have hd1 : pq.Dst w v1 r b0 (b0 + 1) (b0 + 2) #[.int .i64 kind, .int .i64 corr, .string x0, .string x1, .int .i64 0, .int .i64 0, .int .i64 0, .int .i64 0, .string (ByteArray.mk #[]), .string (ByteArray.mk #[]), .int .i64 0, .slice none 0 0, .slice none 0 0] L1 e1 := by rw [hv1]; exact C1.out.store 3 _
  have D2 := Lib.hid hd1; clear hd1 hv1 C1 D1
  have hcall2 := rdq.num _ r L1 e1 v1 D2.out.rd
  have hbd2 := rd.num_bd L1 e1
  obtain ⟨⟨x2, L2, e2⟩, hq2⟩ : ∃ q, rd.num L1 e1 = q := ⟨_, rfl⟩
  rw [hq2] at hcall2 hbd2
  dsimp only at hcall2 hbd2
  unfold RqPost at hcall2
  have HC2 := Lib.hid (And.intro hcall2 (And.intro hq2 hbd2)); clear hcall2 hq2 hbd2
  have k0 := D2.out.p.cell 0 (v := .pointer (some ⟨r, 0, none⟩)) rfl
  have kl := D2.out.p.lt
  go_upto_region 4 with (go_at_call 64; refine HC2.out.1.mono ?_; rintro en u2 ⟨rfl, h1, h2⟩; have C2 := Lib.hid (D2.out.call h1 h2); clear h1 h2; have m0 := C2.out.q.cell 4 (v := .int .i64 0) rfl; have m1 := C2.out.q.frozen 4; have m2 := C2.out.q.lt)
  clear k0 kl m0 m1 m2
  obtain ⟨v2, hv2⟩ : ∃ v, v = u2.setCell ⟨b0 + 1, 4, none⟩ (.int .i64 x2) := ⟨_, rfl⟩
  rw [← hv2]
  have hd2 : pq.Dst w v2 r b0 (b0 + 1) (b0 + 2) #[.int .i64 kind, .int .i64 corr, .string x0, .string x1, .int .i64 x2, .int .i64 0, .int .i64 0, .int .i64 0, .string (ByteArray.mk #[]), .string (ByteArray.mk #[]), .int .i64 0, .slice none 0 0, .slice none 0 0] L2 e2 := by rw [hv2]; exact C2.out.store 4 _
  have D3 := Lib.hid hd2; clear hd2 hv2 C2 D2
  have hcall3 := rdq.num _ r L2 e2 v2 D3.out.rd
  have hbd3 := rd.num_bd L2 e2
  obtain ⟨⟨x3, L3, e3⟩, hq3⟩ : ∃ q, rd.num L2 e2 = q := ⟨_, rfl⟩
  rw [hq3] at hcall3 hbd3
  dsimp only at hcall3 hbd3
  unfold RqPost at hcall3
  have HC3 := Lib.hid (And.intro hcall3 (And.intro hq3 hbd3)); clear hcall3 hq3 hbd3
  have k0 := D3.out.p.cell 0 (v := .pointer (some ⟨r, 0, none⟩)) rfl
  have kl := D3.out.p.lt
  go_upto_region 5 with (go_at_call 64; refine HC3.out.1.mono ?_; rintro en u3 ⟨rfl, h1, h2⟩; have C3 := Lib.hid (D3.out.call h1 h2); clear h1 h2; have m0 := C3.out.q.cell 5 (v := .int .i64 0) rfl; have m1 := C3.out.q.frozen 5; have m2 := C3.out.q.lt)
  clear k0 kl m0 m1 m2
  obtain ⟨v3, hv3⟩ : ∃ v, v = u3.setCell ⟨b0 + 1, 5, none⟩ (.int .i64 x3) := ⟨_, rfl⟩
  rw [← hv3]
  have hd3 : pq.Dst w v3 r b0 (b0 + 1) (b0 + 2) #[.int .i64 kind, .int .i64 corr, .string x0, .string x1, .int .i64 x2, .int .i64 x3, .int .i64 0, .int .i64 0, .string (ByteArray.mk #[]), .string (ByteArray.mk #[]), .int .i64 0, .slice none 0 0, .slice none 0 0] L3 e3 := by rw [hv3]; exact C3.out.store 5 _
  have D4 := Lib.hid hd3; clear hd3 hv3 C3 D3
  have hcall4 := rdq.num _ r L3 e3 v3 D4.out.rd
  have hbd4 := rd.num_bd L3 e3
  obtain ⟨⟨x4, L4, e4⟩, hq4⟩ : ∃ q, rd.num L3 e3 = q := ⟨_, rfl⟩
  rw [hq4] at hcall4 hbd4
  dsimp only at hcall4 hbd4
  unfold RqPost at hcall4
  have HC4 := Lib.hid (And.intro hcall4 (And.intro hq4 hbd4)); clear hcall4 hq4 hbd4
  have k0 := D4.out.p.cell 0 (v := .pointer (some ⟨r, 0, none⟩)) rfl
  have kl := D4.out.p.lt
  go_upto_region 6 with (go_at_call 64; refine HC4.out.1.mono ?_; rintro en u4 ⟨rfl, h1, h2⟩; have C4 := Lib.hid (D4.out.call h1 h2); clear h1 h2; have m0 := C4.out.q.cell 6 (v := .int .i64 0) rfl; have m1 := C4.out.q.frozen 6; have m2 := C4.out.q.lt)
  clear k0 kl m0 m1 m2
  obtain ⟨v4, hv4⟩ : ∃ v, v = u4.setCell ⟨b0 + 1, 6, none⟩ (.int .i64 x4) := ⟨_, rfl⟩
  rw [← hv4]
  have hd4 : pq.Dst w v4 r b0 (b0 + 1) (b0 + 2) #[.int .i64 kind, .int .i64 corr, .string x0, .string x1, .int .i64 x2, .int .i64 x3, .int .i64 x4, .int .i64 0, .string (ByteArray.mk #[]), .string (ByteArray.mk #[]), .int .i64 0, .slice none 0 0, .slice none 0 0] L4 e4 := by rw [hv4]; exact C4.out.store 6 _
  have D5 := Lib.hid hd4; clear hd4 hv4 C4 D4
  have hcall5 := rdq.num _ r L4 e4 v4 D5.out.rd
  have hbd5 := rd.num_bd L4 e4
  obtain ⟨⟨x5, L5, e5⟩, hq5⟩ : ∃ q, rd.num L4 e4 = q := ⟨_, rfl⟩
  rw [hq5] at hcall5 hbd5
  dsimp only at hcall5 hbd5
  unfold RqPost at hcall5
  have HC5 := Lib.hid (And.intro hcall5 (And.intro hq5 hbd5)); clear hcall5 hq5 hbd5
  have k0 := D5.out.p.cell 0 (v := .pointer (some ⟨r, 0, none⟩)) rfl
  have kl := D5.out.p.lt
  go_upto_region 7 with (go_at_call 64; refine HC5.out.1.mono ?_; rintro en u5 ⟨rfl, h1, h2⟩; have C5 := Lib.hid (D5.out.call h1 h2); clear h1 h2; have m0 := C5.out.q.cell 7 (v := .int .i64 0) rfl; have m1 := C5.out.q.frozen 7; have m2 := C5.out.q.lt)
  clear k0 kl m0 m1 m2
  obtain ⟨v5, hv5⟩ : ∃ v, v = u5.setCell ⟨b0 + 1, 7, none⟩ (.int .i64 x5) := ⟨_, rfl⟩
  rw [← hv5]
  have hd5 : pq.Dst w v5 r b0 (b0 + 1) (b0 + 2) #[.int .i64 kind, .int .i64 corr, .string x0, .string x1, .int .i64 x2, .int .i64 x3, .int .i64 x4, .int .i64 x5, .string (ByteArray.mk #[]), .string (ByteArray.mk #[]), .int .i64 0, .slice none 0 0, .slice none 0 0] L5 e5 := by rw [hv5]; exact C5.out.store 7 _
  have D6 := Lib.hid hd5; clear hd5 hv5 C5 D5
  have hcall6 := rdq.text _ r L5 e5 100 v5 D6.out.rd
  obtain ⟨⟨X6, L6, e6⟩, hq6⟩ : ∃ q, rd.piece L5 e5 100 = q := ⟨_, rfl⟩
  rw [hq6] at hcall6
  dsimp only at hcall6
  unfold TextQ at hcall6
  obtain ⟨x6, hx6⟩ : ∃ x, x = strOf X6 := ⟨_, rfl⟩
  rw [← hx6] at hcall6
  have hlen6 : x6.size ≤ 100 := by
    rw [hx6, strOf_size]
    have h1 := rd.piece_len (L := L5) (e := e5) (most := 100) (by omega)
    rw [hq6] at h1
    dsimp only at h1
    omega
  have HC6 := Lib.hid (And.intro hcall6 (And.intro hq6 (And.intro hx6 hlen6))); clear hcall6 hq6 hx6 hlen6
  have k0 := D6.out.p.cell 0 (v := .pointer (some ⟨r, 0, none⟩)) rfl
  have kl := D6.out.p.lt
  go_upto_region 8 with (go_at_call 63; refine HC6.out.1.mono ?_; rintro en u6 ⟨rfl, h1, h2⟩; have C6 := Lib.hid (D6.out.call h1 h2); clear h1 h2; have m0 := C6.out.q.cell 8 (v := .string (ByteArray.mk #[])) rfl; have m1 := C6.out.q.frozen 8; have m2 := C6.out.q.lt)
  clear k0 kl m0 m1 m2
  obtain ⟨v6, hv6⟩ : ∃ v, v = u6.setCell ⟨b0 + 1, 8, none⟩ (.string x6) := ⟨_, rfl⟩
  rw [← hv6]
  have hd6 : pq.Dst w v6 r b0 (b0 + 1) (b0 + 2) #[.int .i64 kind, .int .i64 corr, .string x0, .string x1, .int .i64 x2, .int .i64 x3, .int .i64 x4, .int .i64 x5, .string x6, .string (ByteArray.mk #[]), .int .i64 0, .slice none 0 0, .slice none 0 0] L6 e6 := by rw [hv6]; exact C6.out.store 8 _
  have D7 := Lib.hid hd6; clear hd6 hv6 C6 D6
  have hcall7 := rdq.text _ r L6 e6 100 v6 D7.out.rd
  obtain ⟨⟨X7, L7, e7⟩, hq7⟩ : ∃ q, rd.piece L6 e6 100 = q := ⟨_, rfl⟩
  rw [hq7] at hcall7
  dsimp only at hcall7
  unfold TextQ at hcall7
  obtain ⟨x7, hx7⟩ : ∃ x, x = strOf X7 := ⟨_, rfl⟩
  rw [← hx7] at hcall7
  have hlen7 : x7.size ≤ 100 := by
    rw [hx7, strOf_size]
    have h1 := rd.piece_len (L := L6) (e := e6) (most := 100) (by omega)
    rw [hq7] at h1
    dsimp only at h1
    omega
  have HC7 := Lib.hid (And.intro hcall7 (And.intro hq7 (And.intro hx7 hlen7))); clear hcall7 hq7 hx7 hlen7
  have k0 := D7.out.p.cell 0 (v := .pointer (some ⟨r, 0, none⟩)) rfl
  have kl := D7.out.p.lt
  go_upto_region 9 with (go_at_call 63; refine HC7.out.1.mono ?_; rintro en u7 ⟨rfl, h1, h2⟩; have C7 := Lib.hid (D7.out.call h1 h2); clear h1 h2; have m0 := C7.out.q.cell 9 (v := .string (ByteArray.mk #[])) rfl; have m1 := C7.out.q.frozen 9; have m2 := C7.out.q.lt)
  clear k0 kl m0 m1 m2
  obtain ⟨v7, hv7⟩ : ∃ v, v = u7.setCell ⟨b0 + 1, 9, none⟩ (.string x7) := ⟨_, rfl⟩
  rw [← hv7]
  have hd7 : pq.Dst w v7 r b0 (b0 + 1) (b0 + 2) #[.int .i64 kind, .int .i64 corr, .string x0, .string x1, .int .i64 x2, .int .i64 x3, .int .i64 x4, .int .i64 x5, .string x6, .string x7, .int .i64 0, .slice none 0 0, .slice none 0 0] L7 e7 := by rw [hv7]; exact C7.out.store 9 _
  have D8 := Lib.hid hd7; clear hd7 hv7 C7 D7
  have hcall8 := rdq.num _ r L7 e7 v7 D8.out.rd
  have hbd8 := rd.num_bd L7 e7
  obtain ⟨⟨x8, L8, e8⟩, hq8⟩ : ∃ q, rd.num L7 e7 = q := ⟨_, rfl⟩
  rw [hq8] at hcall8 hbd8
  dsimp only at hcall8 hbd8
  unfold RqPost at hcall8
  have HC8 := Lib.hid (And.intro hcall8 (And.intro hq8 hbd8)); clear hcall8 hq8 hbd8
  have k0 := D8.out.p.cell 0 (v := .pointer (some ⟨r, 0, none⟩)) rfl
  have kl := D8.out.p.lt
  go_upto_region 10 with (go_at_call 64; refine HC8.out.1.mono ?_; rintro en u8 ⟨rfl, h1, h2⟩; have C8 := Lib.hid (D8.out.call h1 h2); clear h1 h2; have m0 := C8.out.q.cell 10 (v := .int .i64 0) rfl; have m1 := C8.out.q.frozen 10; have m2 := C8.out.q.lt)
  clear k0 kl m0 m1 m2
  obtain ⟨v8, hv8⟩ : ∃ v, v = u8.setCell ⟨b0 + 1, 10, none⟩ (.int .i64 x8) := ⟨_, rfl⟩
  rw [← hv8]
  have hd8 : pq.Dst w v8 r b0 (b0 + 1) (b0 + 2) #[.int .i64 kind, .int .i64 corr, .string x0, .string x1, .int .i64 x2, .int .i64 x3, .int .i64 x4, .int .i64 x5, .string x6, .string x7, .int .i64 x8, .slice none 0 0, .slice none 0 0] L8 e8 := by rw [hv8]; exact C8.out.store 10 _
  have D9 := Lib.hid hd8; clear hd8 hv8 C8 D8
  have hlist := pq.list_any (fun k => k < w.heap.size) 30 b0 r L8 e8 v8 (by omega) D9.out.p D9.out.rd (fun k hk => Nat.lt_of_lt_of_le hk D9.out.chg.size)
  obtain ⟨⟨ns, L9, e9⟩, hq9⟩ : ∃ q, pq.list 30 L8 e8 = q := ⟨_, rfl⟩
  rw [hq9] at hlist
  dsimp only at hlist
  have HL := Lib.hid (And.intro hlist hq9); clear hlist hq9
  have k0 := D9.out.p.cell 0 (v := .pointer (some ⟨r, 0, none⟩)) rfl
  have kl := D9.out.p.lt
  go_upto_region 11 with (go_at_call 65; refine HL.out.1.mono ?_; rintro en u9 ⟨⟨vn, rfl, h1⟩, h2, h3⟩; have C9 := Lib.hid (And.intro h1 (And.intro h2 h3)); clear h1 h2 h3)

  clear k0 kl hmf
  have hb2r : ¬ rdT r (b0 + 2) := fun e => by have e : b0 + 2 = r := e; have := D9.out.low; omega
  have hb1r : ¬ rdT r (b0 + 1) := fun e => by have e : b0 + 1 = r := e; have := D9.out.low; omega
  have hRx : ∀ (l : List Nat × List Nat × Int), l = rd.piece L9 0 65536 → R = if e9 ≠ 0 then (⟨0, 0, ByteArray.mk #[], ByteArray.mk #[], 0, 0, 0, 0, ByteArray.mk #[], ByteArray.mk #[], 0, [], []⟩, e9) else (⟨kind, corr, x0, x1, x2, x3, x4, x5, x6, x7, x8, ns, l.1⟩, if 0 < l.2.1.length then 2 else l.2.2) := fun l hl => by
    rw [HR.out, hl, HC0.out.2.2.1, HC1.out.2.2.1, HC6.out.2.2.1, HC7.out.2.2.1]
    unfold pq.rest
    simp only [HC0.out.2.1, HC1.out.2.1, HC2.out.2.1, HC3.out.2.1, HC4.out.2.1, HC5.out.2.1, HC6.out.2.1, HC7.out.2.1, HC8.out.2.1, HL.out.2]
  have HRX := Lib.hid hRx; clear hRx
  have hL9 : L9.length ≤ 140737488351232 := by
    have l0 := rd.piece_rest L e 100
    have l1 := rd.piece_rest L0 e0 100
    have l2 := rd.num_le L1 e1
    have l3 := rd.num_le L2 e2
    have l4 := rd.num_le L3 e3
    have l5 := rd.num_le L4 e4
    have l6 := rd.piece_rest L5 e5 100
    have l7 := rd.piece_rest L6 e6 100
    have l8 := rd.num_le L7 e7
    have l9 := pq.list_rest 30 L8 e8
    rw [HC0.out.2.1] at l0
    rw [HC1.out.2.1] at l1
    rw [HC2.out.2.1] at l2
    rw [HC3.out.2.1] at l3
    rw [HC4.out.2.1] at l4
    rw [HC5.out.2.1] at l5
    rw [HC6.out.2.1] at l6
    rw [HC7.out.2.1] at l7
    rw [HC8.out.2.1] at l8
    rw [HL.out.2] at l9
    dsimp only at l0 l1 l2 l3 l4 l5 l6 l7 l8 l9
    have := HLL.out
    omega
  have HL9 := Lib.hid hL9; clear hL9
  by_cases h9 : e9 = 0
  case neg =>
    have hR2 : R.2 = e9 := by rw [HRX.out _ rfl, if_pos h9]
    have d1 : (e9 == 0) = false := by simp [h9]
    have d2 : (e9 != 0) = true := by simp [h9]
    have hz := C9.out.2.2.blk D9.out.z hb2r
    have HZ := Lib.hid (And.intro hz (And.intro hR2 (And.intro h9 hb2r))); clear hz hR2 h9 hb2r hb1r
    go_wp2_with (refine wpList_store_row rfl 25 (.tmp 4) (.tmp 43) rfl (b0 + 2) pq.zero rfl rfl 25 _ HZ.out.1 pq.infoReq rfl (by simp [Value.oneCell', pq.zero]) ?_)
    have hz9 := pq.blk_row HZ.out.1 pq.zero
    have hc9 := pq.chg_row u9 (b0 + 2) pq.zero
    generalize u9.setRow (b0 + 2) pq.zero = w9 at *
    refine bodyPost_ret (res_cell2 rfl _ _ (b0 + 2) pq.zero _ rfl hz9 Try.underlying25 rfl pq.infoReq) rfl ?_
    exact ⟨⟨pq.zero, by rw [HZ.out.2.1]; rfl, ⟨rfl, by simp [Value.oneCell', pq.zero]⟩, fun h => absurd (HZ.out.2.1.symm.trans h) HZ.out.2.2.1⟩, (D9.out.chg.trans C9.out.2.2 fun _ _ q => q).trans hc9 fun k hk q => by have q : k = b0 + 2 := q; have := D9.out.low; omega⟩
  subst h9
  obtain ⟨nn, hnn⟩ : ∃ n, n = ns.length := ⟨_, rfl⟩
  have hown := C9.out.1
  rw [← hnn] at hown
  obtain ⟨An, cn, rfl, hnc, -⟩ := own_at hown
  have hd10 := D9.out.call (C9.out.2.1 rfl) C9.out.2.2
  have D8x := Lib.hid D9.out.chg.size
  have D10 := Lib.hid (And.intro hd10 (And.intro hown hnn)); clear hd10 hown hnn D9 C9
  have m0 := D10.out.1.q.cell 11 (v := .slice none 0 0) rfl
  have m1 := D10.out.1.q.frozen 11
  have m2 := D10.out.1.q.lt
  have k0 := D10.out.1.p.cell 0 (v := .pointer (some ⟨r, 0, none⟩)) rfl
  have kl := D10.out.1.p.lt
  go_upto_region 14 with fail
  clear m0 m1 m2 k0 kl
  obtain ⟨v9, hv9⟩ : ∃ v, v = u9.setCell ⟨b0 + 1, 11, none⟩ (.slice An nn cn) := ⟨_, rfl⟩
  rw [← hv9]
  have hd11 : pq.Dst w v9 r b0 (b0 + 1) (b0 + 2) #[.int .i64 kind, .int .i64 corr, .string x0, .string x1, .int .i64 x2, .int .i64 x3, .int .i64 x4, .int .i64 x5, .string x6, .string x7, .int .i64 x8, .slice An nn cn, .slice none 0 0] L9 0 := by rw [hv9]; exact D10.out.1.store 11 _
  have hne : ∀ {T e : TypeId} {cs : Array Value} {v : World} {b : Nat} {n c base : Nat} {A : Option Addr} {xs : List Value}, Blk v b T cs → T ≠ e → v.ownsRow base e 1 (.slice A n c) n xs → ∀ k, (Value.slice A n c).ownBlock = some k → k ≠ b := fun hb hT ho k hk e => by subst e; exact hb.not_row hT ho hk
  have hown : v9.ownsRow w.heap.size 9 1 (.slice An nn cn) nn (ns.map fun s => .string s) := by
    rw [hv9]
    exact (Chg.setCell u9 (b0 + 1) 11 _).own (ownsRow_base D10.out.2.1 D8x.out) fun k hk e => hne D10.out.1.q (by decide) D10.out.2.1 k hk e
  have D11 := Lib.hid (And.intro hd11 hown); clear hd11 hown hv9
  have hby := rdq.bytes _ r L9 0 65536 v9 D11.out.1.rd HL9.out
  obtain ⟨⟨Xd, Ld, ed⟩, hqd⟩ : ∃ q, rd.piece L9 0 65536 = q := ⟨_, rfl⟩
  have hpm : ∀ x ∈ Xd, x < 256 := fun x hx => by
    obtain ⟨A, c, h, -⟩ := D11.out.1.rd
    exact h.byte x (by have := rd.piece_mem (L := L9) (e := 0) (most := 65536) x; rw [hqd] at this; exact this hx)
  have hR2 := HRX.out _ rfl
  rw [hqd] at hby hR2
  dsimp only at hby hR2
  rw [if_neg (by simp)] at hR2
  unfold BytesQ at hby
  obtain ⟨E, hE⟩ : ∃ E : Int, E = if 0 < Ld.length then 2 else ed := ⟨_, rfl⟩
  rw [← hE] at hR2
  have HEE := Lib.hid hE; clear hE
  have HBY := Lib.hid (And.intro hby (And.intro hpm hR2)); clear hby hpm hR2 hqd
  have k0 := D11.out.1.p.cell 0 (v := .pointer (some ⟨r, 0, none⟩)) rfl
  have kl := D11.out.1.p.lt
  go_upto_region 15 with (go_at_call 67; refine HBY.out.1.mono ?_; rintro en u10 ⟨⟨vd, rfl, h1⟩, h2, h3⟩; obtain ⟨Ad, cd, rfl, -, -⟩ := own_at h1; have C10 := Lib.hid (And.intro h1 (And.intro (D11.out.1.call h2 h3) h3)); clear h1 h2 h3; have m0 := C10.out.2.1.q.cell 12 (v := .slice none 0 0) rfl; have m1 := C10.out.2.1.q.frozen 12; have m2 := C10.out.2.1.q.lt)
  clear k0 kl m0 m1 m2
  obtain ⟨v10, hv10⟩ : ∃ v, v = u10.setCell ⟨b0 + 1, 12, none⟩ (.slice Ad Xd.length cd) := ⟨_, rfl⟩
  rw [← hv10]
  have hd12 : pq.Dst w v10 r b0 (b0 + 1) (b0 + 2) #[.int .i64 kind, .int .i64 corr, .string x0, .string x1, .int .i64 x2, .int .i64 x3, .int .i64 x4, .int .i64 x5, .string x6, .string x7, .int .i64 x8, .slice An nn cn, .slice Ad Xd.length cd] Ld ed := by rw [hv10]; exact C10.out.2.1.store 12 _
  have hown1 : v10.ownsRow w.heap.size 9 1 (.slice An nn cn) nn (ns.map fun s => .string s) := by
    have h1 : u10.ownsRow w.heap.size 9 1 (.slice An nn cn) nn (ns.map fun s => .string s) := C10.out.2.2.own D11.out.2 fun k hk e => by
      obtain ⟨cs, hb⟩ := D11.out.1.rd.blk
      exact hne hb (by decide) D11.out.2 k hk e
    rw [hv10]
    exact (Chg.setCell u10 (b0 + 1) 12 _).own h1 fun k hk e => hne C10.out.2.1.q (by decide) h1 k hk e
  have hown2 : v10.ownsRow w.heap.size 5 1 (.slice Ad Xd.length cd) Xd.length (u8s Xd) := by
    have h1 := ownsRow_base C10.out.1 D11.out.1.chg.size
    rw [hv10]
    exact (Chg.setCell u10 (b0 + 1) 12 _).own h1 fun k hk e => hne C10.out.2.1.q (by decide) h1 k hk e
  have hdr : Chg v10 v10.drew (fun _ => False) := (Chg.refl _ _).drew
  have D12 := Lib.hid (And.intro hd12 (And.intro hown1 (And.intro hown2 hdr))); clear hd12 hown1 hown2 hdr hv10 C10
  have z0 : ∀ x : Later v10 (fun k => k = b0 + 2), x.1.cell? ⟨b0 + 1, 0, none⟩ = some (.int .i64 kind) := fun x => (x.2.blk D12.out.1.q (by omega)).cell 0 rfl
  have z1 : ∀ x : Later v10 (fun k => k = b0 + 2), x.1.cell? ⟨b0 + 1, 1, none⟩ = some (.int .i64 corr) := fun x => (x.2.blk D12.out.1.q (by omega)).cell 1 rfl
  have z2 : ∀ x : Later v10 (fun k => k = b0 + 2), x.1.cell? ⟨b0 + 1, 2, none⟩ = some (.string x0) := fun x => (x.2.blk D12.out.1.q (by omega)).cell 2 rfl
  have z3 : ∀ x : Later v10 (fun k => k = b0 + 2), x.1.cell? ⟨b0 + 1, 3, none⟩ = some (.string x1) := fun x => (x.2.blk D12.out.1.q (by omega)).cell 3 rfl
  have z4 : ∀ x : Later v10 (fun k => k = b0 + 2), x.1.cell? ⟨b0 + 1, 4, none⟩ = some (.int .i64 x2) := fun x => (x.2.blk D12.out.1.q (by omega)).cell 4 rfl
  have z5 : ∀ x : Later v10 (fun k => k = b0 + 2), x.1.cell? ⟨b0 + 1, 5, none⟩ = some (.int .i64 x3) := fun x => (x.2.blk D12.out.1.q (by omega)).cell 5 rfl
  have z6 : ∀ x : Later v10 (fun k => k = b0 + 2), x.1.cell? ⟨b0 + 1, 6, none⟩ = some (.int .i64 x4) := fun x => (x.2.blk D12.out.1.q (by omega)).cell 6 rfl
  have z7 : ∀ x : Later v10 (fun k => k = b0 + 2), x.1.cell? ⟨b0 + 1, 7, none⟩ = some (.int .i64 x5) := fun x => (x.2.blk D12.out.1.q (by omega)).cell 7 rfl
  have z8 : ∀ x : Later v10 (fun k => k = b0 + 2), x.1.cell? ⟨b0 + 1, 8, none⟩ = some (.string x6) := fun x => (x.2.blk D12.out.1.q (by omega)).cell 8 rfl
  have z9 : ∀ x : Later v10 (fun k => k = b0 + 2), x.1.cell? ⟨b0 + 1, 9, none⟩ = some (.string x7) := fun x => (x.2.blk D12.out.1.q (by omega)).cell 9 rfl
  have z10 : ∀ x : Later v10 (fun k => k = b0 + 2), x.1.cell? ⟨b0 + 1, 10, none⟩ = some (.int .i64 x8) := fun x => (x.2.blk D12.out.1.q (by omega)).cell 10 rfl
  have z11 : ∀ x : Later v10 (fun k => k = b0 + 2), x.1.cell? ⟨b0 + 1, 11, none⟩ = some (.slice An nn cn) := fun x => (x.2.blk D12.out.1.q (by omega)).cell 11 rfl
  have z12 : ∀ x : Later v10 (fun k => k = b0 + 2), x.1.cell? ⟨b0 + 1, 12, none⟩ = some (.slice Ad Xd.length cd) := fun x => (x.2.blk D12.out.1.q (by omega)).cell 12 rfl
  have kd0 : v10.drew.cell? ⟨b0, 0, none⟩ = some (.pointer (some ⟨r, 0, none⟩)) := (D12.out.2.2.2.blk D12.out.1.p fun q => q).cell 0 rfl
  have kdl : b0 < v10.drew.heap.size := (D12.out.2.2.2.blk D12.out.1.p fun q => q).lt
  have zl : ∀ x : Later v10 (fun k => k = b0 + 2), b0 + 1 < x.1.heap.size := fun x => (x.2.blk D12.out.1.q (by omega)).lt
  have hrd : RdQ (fun k => k < w.heap.size) v10.drew r Ld ed := D12.out.1.rd.chg D12.out.2.2.2 (fun q => q) fun _ _ q => q
  have hz12 := D12.out.2.2.2.blk D12.out.1.z fun q => q
  have hend := pq.ended_any hrd
  rw [← HEE.out] at hend
  have HE := Lib.hid (And.intro hend hz12); clear hrd hz12 hend
  have hS0 : later v10 (fun k => k = b0 + 2) v10.drew := later_of ((Chg.refl _ _).drew)
  refine wp_plan (S := fun w0 => ∃ x : Later v10 (fun k => k = b0 + 2), w0 = x.1) (by kernel_rfl) hS0 ?_
  intro hS' K5 hK5
  have HS := Lib.hid hS'; clear hS' hS0
  refine plan_group [true] [0] 4 (by dsimp only [sel]) (by rfl) rfl (by kernel_rfl) (by kernel_rfl) HS.out ?_
  (repeat go_big_quiet_step (fail)); refine wpQuiet_nil ?_
  clear z0 z1 z2 z3 z4 z5 z6 z7 z8 z9 z10 z11 z12
  refine plan_one [false, true] 1 3 (by dsimp only [sel]) (by rfl) rfl (by kernel_rfl) ?_; intro K1 hK1; go_wp2_with fail
  refine ⟨by first | exact HS.out | exact fun _ => HS.out, ?_⟩
  refine plan_one [false, false, true] 2 2 (by dsimp only [sel]) (by rfl) rfl (by kernel_rfl) ?_; intro K2 hK2
  go_wp2_with (go_at_call 68; refine HE.out.1.mono ?_; rintro en wq ⟨rfl, h3⟩; subst h3)
  refine ⟨by first | exact HS.out | exact fun _ => HS.out, ?_⟩
  refine plan_one [false, false, false, true] 3 1 (by dsimp only [sel]) (by rfl) rfl (by kernel_rfl) ?_; intro K3 hK3
  go_wp2_with (show Go.wpList _ _ _ (⟨_, .store _ (.tmp 4) (.tmp 50), _, _, _, _⟩ :: _) _ _; go_loud (refine wpList_store_row rfl 25 (.tmp 4) (.tmp 50) rfl (b0 + 2) #[.int .i64 kind, .int .i64 corr, .string x0, .string x1, .int .i64 x2, .int .i64 x3, .int .i64 x4, .int .i64 x5, .string x6, .string x7, .int .i64 x8, .slice An nn cn, .slice Ad Xd.length cd] rfl rfl 25 pq.zero HE.out.2 pq.infoReq rfl (by simp [Value.oneCell']) ?_))
  obtain ⟨wz, hwz⟩ : ∃ wz, wz = v10.drew.setRow (b0 + 2) #[.int .i64 kind, .int .i64 corr, .string x0, .string x1, .int .i64 x2, .int .i64 x3, .int .i64 x4, .int .i64 x5, .string x6, .string x7, .int .i64 x8, .slice An nn cn, .slice Ad Xd.length cd] := ⟨_, rfl⟩
  rw [← hwz]
  have hcz : Chg v10 wz (fun k => k = b0 + 2) := by rw [hwz]; exact (D12.out.2.2.2.mono fun _ _ q => q.elim).trans (pq.chg_row _ _ _) fun _ _ q => q
  have hbz : Blk wz (b0 + 2) 25 #[.int .i64 kind, .int .i64 corr, .string x0, .string x1, .int .i64 x2, .int .i64 x3, .int .i64 x4, .int .i64 x5, .string x6, .string x7, .int .i64 x8, .slice An nn cn, .slice Ad Xd.length cd] := by rw [hwz]; exact pq.blk_row HE.out.2 _
  have HZ := Lib.hid (And.intro hcz hbz); clear hcz hbz hwz
  have hSz := later_of HZ.out.1
  refine ⟨by first | exact hSz | exact fun _ => hSz, ?_⟩
  go_simp
  refine plan_group [false, false, false, false, true] [4] 0 (by dsimp only [sel]) (by rfl) rfl (by kernel_rfl) (by kernel_rfl) hSz ?_
  (repeat go_big_quiet_step (fail)); refine wpQuiet_nil ?_
  refine wp_plan_end (by kernel_rfl) ?_
  refine hK5 _ _ ?_
  clear HS hSz
  go_wp2_with fail
  refine bodyPost_ret (res_cell2 rfl _ _ (b0 + 2) #[.int .i64 kind, .int .i64 corr, .string x0, .string x1, .int .i64 x2, .int .i64 x3, .int .i64 x4, .int .i64 x5, .string x6, .string x7, .int .i64 x8, .slice An nn cn, .slice Ad Xd.length cd] _ rfl HZ.out.2 Try.underlying25 rfl pq.infoReq) rfl ?_
  have hn1 := HZ.out.1.own D12.out.2.1 fun k hk e => hne D12.out.1.z (by decide) D12.out.2.1 k hk e
  have hn2 := HZ.out.1.own D12.out.2.2.1 fun k hk e => hne D12.out.1.z (by decide) D12.out.2.2.1 k hk e
  have hcw : Chg w wz (rdT r) := D12.out.1.chg.trans HZ.out.1 fun k hk q => by have q : k = b0 + 2 := q; have := D12.out.1.low; omega
  have hRR := HBY.out.2.2
  refine ⟨⟨_, by rw [hRR]; rfl, ⟨rfl, by simp [Value.oneCell']⟩, fun _ => ⟨An, cn, Ad, cd, ?_, ?_, fun b off h => (hn1.lt b (by rw [h]; rfl)).1, fun b off h => (hn2.lt b (by rw [h]; rfl)).1⟩⟩, hcw⟩
  · rw [hRR]
    unfold PReq.cells
    dsimp only
    rw [← D10.out.2.2]
  · rw [hRR]
    refine ⟨⟨⟨HKC.out.1, HKC.out.2.1, HC2.out.2.2, HC3.out.2.2, HC4.out.2.2, HC5.out.2.2, HC8.out.2.2⟩, ?_, ?_, ?_, ?_⟩, ?_, ?_⟩
    · have := HC0.out.2.2.2; unfold maxLen; dsimp only; omega
    · have := HC1.out.2.2.2; unfold maxLen; dsimp only; omega
    · have := HC6.out.2.2.2; unfold maxLen; dsimp only; omega
    · have := HC7.out.2.2.2; unfold maxLen; dsimp only; omega
    · refine pq.strsV hn1 D10.out.2.2.symm fun s hs => ?_
      have h1 := pq.list_size (most := 30) (L := L8) (e := e8) s (by rw [HL.out.2]; exact hs)
      unfold maxLen
      omega
    · obtain ⟨A9, c9, e9, h1, -, h2⟩ := own_bytes hn2
      obtain ⟨rfl, rfl⟩ : Ad = A9 ∧ cd = c9 := by injection e9 with e1 e2 e3; exact ⟨e1, e3⟩
      exact ⟨Ad, cd, rfl, h2, h1, own_cap hn2, HBY.out.2.1⟩
end Go.Proofs.Ytimcpbbcealkiaa

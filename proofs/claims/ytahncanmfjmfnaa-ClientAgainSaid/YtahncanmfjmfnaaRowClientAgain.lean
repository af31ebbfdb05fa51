/- The law ClientAgain, whatever its arguments: it answers true and leaves them as they were. -/
import Derived.Test.YtahncanmfjmfnaaCnX
import Derived.Test.YtahncanmfjmfnaaRrF
import Derived.Test.YtahncanmfjmfnaaOpenS
namespace Go.Proofs.Ytahncanmfjmfnaa
open Go.RowKit Go.Maps
set_option maxRecDepth 100000

theorem ca.check3 : ∀ k : Fin 20, (cn.bat 7 1 0 (cn.recs (k.val + 1) 3)).check = 0 := by decide +kernel
theorem ca.check5 : ∀ k : Fin 20, (cn.bat 7 1 0 (cn.recs (k.val + 1) 5)).check = 0 := by decide +kernel
theorem ca.check (k : Nat) (seed : Int) (hk : 1 ≤ k ∧ k ≤ 20) (hs : seed = 3 ∨ seed = 5) : (cn.bat 7 1 0 (cn.recs k seed)).check = 0 := by
  have e : k = (⟨k - 1, by omega⟩ : Fin 20).val + 1 := by show k = k - 1 + 1; omega
  rcases hs with rfl | rfl
  · rw [e]; exact ca.check3 _
  · rw [e]; exact ca.check5 _
/-- What a request of k records has as bytes. -/
def ca.bytes (k : Nat) (seed : Int) : List Nat := (cn.bat 7 1 0 (cn.recs k seed)).bytes
theorem ca.len (k : Nat) (seed : Int) (hk : 1 ≤ k ∧ k ≤ 20) (hs : seed = 3 ∨ seed = 5) : 50 ≤ (ca.bytes k seed).length ∧ (ca.bytes k seed).length ≤ 65536 := by
  have := Bat.summed_le (ca.check k seed hk hs)
  unfold ca.bytes
  omega
theorem ca.records (k : Nat) (seed : Int) (hk : 1 ≤ k ∧ k ≤ 20) (w : World) : Calls Try.prog 12 #[.int .i64 (k : Int), .int .i64 seed] w fun e w' => ∃ A3 c3, e = .returned (.slice A3 k c3) ∧ RecsV w' (.slice A3 (cn.recs k seed).length c3) (cn.recs k seed) ∧ Below w.heap.size w w' := by
  refine (cn.records_any k seed w (by omega)).mono ?_
  rintro e w' ⟨v, rfl, h1, h2⟩
  obtain ⟨A3, c3, rfl, h4⟩ := h1.recsV
  exact ⟨A3, c3, by rw [cn.recs_len], h4, h2⟩
theorem ca.make (k : Nat) (seed : Int) (hk : 1 ≤ k ∧ k ≤ 20) (hs : seed = 3 ∨ seed = 5) (p : Nat) (corr : Int) (F : Nat → Prop) (A3 : Option Addr) (c3 : Nat) (w : World) (h : CnAt w p 7 1 corr none (fun _ => 0) F 0) (hv : RecsV w (.slice A3 (cn.recs k seed).length c3) (cn.recs k seed)) (hc : 0 ≤ corr ∧ corr ≤ 10) :
    Calls Try.prog 13 #[.pointer (some ⟨p, 0, none⟩), .string (ByteArray.mk #[116]), .int .i64 0, .slice A3 k c3] w fun e w' => ∃ A4 c4 F4, e = .returned (.tuple #[.agg (cn.req (corr + 1) (ByteArray.mk #[116]) 0 (.slice A4 (ca.bytes k seed).length c4)), .int .i64 0]) ∧
      w'.ownsRow w.heap.size 5 1 (.slice A4 (ca.bytes k seed).length c4) (ca.bytes k seed).length (u8s (ca.bytes k seed)) ∧ (∀ g, (Value.slice A4 (ca.bytes k seed).length c4).ownBlock = some g → ¬ F4 g) ∧
      CnAt w' p 7 1 (corr + 1) (some ⟨corr + 1, aw.t.s, aw.t.p, ca.bytes k seed, (k : Int)⟩) (fun _ => 0) F4 0 ∧ (∀ g, F4 g → F g ∨ w.heap.size ≤ g) ∧ Chg w w' F := by
  have hl := cn.recs_len k seed
  have := cn.make_ok p 7 1 corr (fun _ => 0) F 0 aw.t A3 c3 (cn.recs k seed) w h hv (by omega) (by omega) (ca.check k seed hk hs) (by omega)
  rw [show (Value.slice A3 (cn.recs k seed).length c3) = .slice A3 k c3 by rw [hl]] at this
  refine this.mono ?_
  rintro e w' ⟨A4, c4, M, rfl, h1, h2, h4, h6⟩
  rw [hl] at h4
  exact ⟨A4, c4, _, rfl, ownsRow_base h1 h2, fun g hg hF => Nat.lt_irrefl _ (Nat.lt_of_lt_of_le hF.2 (h1.lt g hg).1), h4, fun g hg => hg.1, h6⟩
theorem ca.byte_frozen {w : World} {base g n c : Nat} {xs : List Value} (h : w.ownsRow base 5 1 (.slice (some ⟨g, 0, none⟩) n c) n xs) (j : Nat) : w.frozen? ⟨g, j, none⟩ = false := by
  rcases h.2 with ⟨h1, -⟩ | ⟨g', cap, cur, h1, h3, h4, -⟩
  · cases h1
  · obtain ⟨rfl, rfl⟩ : g = g' ∧ c = cap := by injection h1 with e1 e2 e3; exact ⟨by injection e1 with e1; injection e1, e3⟩
    exact Blk.frozen (T := 5) (cs := cur) h4 j
theorem ca.row_some {w : World} {base n c : Nat} {A : Option Addr} {xs : List Value} (h : w.ownsRow base 5 1 (.slice A n c) n xs) (hn : 0 < n) : ∃ g, A = some ⟨g, 0, none⟩ := by
  rcases h.2 with ⟨h1, -⟩ | ⟨g, cap, cur, h1, -⟩
  · exfalso
    have : n = 0 := by injection h1
    omega
  · exact ⟨g, by injection h1⟩

theorem ca.bat_byte {b : Bat} (hc : b.check = 0) (hr : ∀ r ∈ b.recs, (∀ x ∈ r.key, x < 256) ∧ ∀ x ∈ r.val, x < 256) : ∀ x ∈ b.bytes, x < 256 := by
  obtain ⟨hm, -, ho, -⟩ := Bat.check_ok hc
  have hs := Bat.summed_byte hm ho hr
  unfold Bat.bytes Bat.front
  intro x hx
  simp only [List.mem_append] at hx
  rcases hx with ((h | h) | h) | h
  · exact wire.be_byte _ _ x h
  · exact wire.be_byte _ _ x h
  · exact wire.be_byte _ _ x h
  · exact hs x h
theorem cn.rec_byte (key value time : Int) : (∀ x ∈ (cn.rec key value time).key, x < 256) ∧ ∀ x ∈ (cn.rec key value time).val, x < 256 := by
  unfold cn.rec
  dsimp only
  refine ⟨fun x hx => ?_, fun x hx => ?_⟩
  · split at hx
    · have h1 := cn.round_bd key (n := 26) (by omega)
      obtain rfl : x = _ := by simpa using hx
      omega
    · cases hx
  · split at hx
    · unfold cn.block at hx
      obtain ⟨i, -, rfl⟩ := List.mem_map.1 hx
      omega
    · cases hx
theorem ca.byte (k : Nat) (seed : Int) (hk : 1 ≤ k ∧ k ≤ 20) (hs : seed = 3 ∨ seed = 5) : ∀ x ∈ ca.bytes k seed, x < 256 := by
  refine ca.bat_byte (ca.check k seed hk hs) fun r hr => ?_
  have hr : r ∈ cn.numbered (cn.recs k seed) := hr
  obtain ⟨i, hi⟩ := List.mem_iff_getElem?.1 hr
  unfold cn.numbered at hi
  rw [List.getElem?_mapIdx] at hi
  cases hx : (cn.recs k seed)[i]? with
  | none => rw [hx] at hi; cases hi
  | some y =>
    rw [hx] at hi
    obtain rfl : ({ y with off := (i : Int) } : Rec) = r := by simpa using hi
    have hy := List.mem_of_getElem? hx
    unfold cn.recs at hy
    obtain ⟨j, -, rfl⟩ := List.mem_map.1 hy
    have h3 := cn.rec_byte (wrap64 (seed + (j : Int))) (j : Int) (j : Int)
    exact ⟨h3.1, h3.2⟩
theorem ca.decode (k : Nat) (seed : Int) (hk : 1 ≤ k ∧ k ≤ 20) (hs : seed = 3 ∨ seed = 5) (A : Option Addr) (c : Nat) (w : World) (h : w.ownsRow 0 5 1 (.slice A (ca.bytes k seed).length c) (ca.bytes k seed).length (u8s (ca.bytes k seed))) (hb : ∀ x ∈ ca.bytes k seed, x < 256) :
    Calls Try.prog 20 #[.slice A (ca.bytes k seed).length c] w fun e w' => ∃ lst A2 c2, e = .returned (.tuple #[.agg #[.int .i64 0, .int .i64 lst, .int .i64 7, .int .i64 1, .int .i64 0, .slice A2 k c2], .int .i64 0]) ∧ Below w.heap.size w w' := by
  obtain ⟨A9, c9, e9, hnc, -, hat⟩ := own_bytes h
  obtain ⟨rfl, rfl⟩ : A = A9 ∧ c = c9 := by injection e9 with e1 e2 e3; exact ⟨e1, e3⟩
  refine (ref.decode_any A c (ca.bytes k seed) w hat hb hnc (own_cap h) (by have := (ca.len k seed hk hs).2; omega)).mono ?_
  have hd := dec.decode_put (ca.check k seed hk hs)
  rintro e w' ⟨h1 | ⟨b, A2, c2, h1, -, rfl⟩, h2⟩
  · exfalso
    have : dec.decode (ca.bytes k seed) = none := h1.1
    unfold ca.bytes at this
    rw [hd] at this
    cases this
  · have e2 : b = cn.bat 7 1 0 (cn.recs k seed) := by
      have : dec.decode (ca.bytes k seed) = some b := h1
      unfold ca.bytes at this
      rw [hd] at this
      exact (Option.some.inj this).symm
    subst e2
    refine ⟨(cn.bat 7 1 0 (cn.recs k seed)).last, A2, c2, ?_, h2⟩
    unfold Bat.hval cn.bat
    dsimp only
    rw [cn.numbered_len, cn.recs_len]
def aw.u : SlotK := ⟨ByteArray.mk #[117], 0, by unfold maxLen; decide, by unfold intOk; decide⟩
theorem aw.ut : aw.u ≠ aw.t := fun h => by
  have : aw.u.s = aw.t.s := by rw [h]
  exact absurd this (by decide)

set_option maxHeartbeats 8000000 in
theorem law24.again (n m tries code : Int) (w : World) : Calls Try.prog 6 #[.int .i64 n, .int .i64 m, .int .i64 tries, .int .i64 code] w fun e w' => e = .returned (.bool true) ∧ Below w.heap.size w w' := by
  have HAW := Lib.hid (law24.awake w)
  have haw : ∀ wx, Below w.heap.size w wx → Calls Try.prog 9 #[] wx fun a w' => a = .returned (.bool true) ∧ Below w.heap.size w w' := fun wx h => by
    refine (law24.awake wx).mono ?_
    rintro a w' ⟨h1, h2⟩
    exact ⟨h1, h.trans (h2.mono h.size)⟩
  have HAX := Lib.hid haw; clear haw
  go_enter Try.func6, Try.ntmps6
  by_cases h0 : n < 1
  · have g0 : decide (n < 1) = true := decide_eq_true h0
    go_wp2_with (go_at_call 9; refine HAW.out.mono ?_; rintro a w2 ⟨rfl, hb⟩; have HB := Lib.hid hb; clear hb)
    go_ret
    exact ⟨rfl, HB.out⟩
  have g0 : decide (n < 1) = false := decide_eq_false h0
  by_cases h1 : 20 < n
  · have g1 : decide (20 < n) = true := decide_eq_true h1
    go_wp2_with (go_at_call 9; refine HAW.out.mono ?_; rintro a w2 ⟨rfl, hb⟩; have HB := Lib.hid hb; clear hb)
    go_ret
    exact ⟨rfl, HB.out⟩
  have g1 : decide (20 < n) = false := decide_eq_false h1
  by_cases h2 : m < 1
  · have g2 : decide (m < 1) = true := decide_eq_true h2
    go_wp2_with (go_at_call 9; refine HAW.out.mono ?_; rintro a w2 ⟨rfl, hb⟩; have HB := Lib.hid hb; clear hb)
    go_ret
    exact ⟨rfl, HB.out⟩
  have g2 : decide (m < 1) = false := decide_eq_false h2
  by_cases h3 : 20 < m
  · have g3 : decide (20 < m) = true := decide_eq_true h3
    go_wp2_with (go_at_call 9; refine HAW.out.mono ?_; rintro a w2 ⟨rfl, hb⟩; have HB := Lib.hid hb; clear hb)
    go_ret
    exact ⟨rfl, HB.out⟩
  have g3 : decide (20 < m) = false := decide_eq_false h3
  by_cases h4 : tries < 0
  · have g4 : decide (tries < 0) = true := decide_eq_true h4
    go_wp2_with (go_at_call 9; refine HAW.out.mono ?_; rintro a w2 ⟨rfl, hb⟩; have HB := Lib.hid hb; clear hb)
    go_ret
    exact ⟨rfl, HB.out⟩
  have g4 : decide (tries < 0) = false := decide_eq_false h4
  by_cases h5 : 10 < tries
  · have g5 : decide (10 < tries) = true := decide_eq_true h5
    go_wp2_with (go_at_call 9; refine HAW.out.mono ?_; rintro a w2 ⟨rfl, hb⟩; have HB := Lib.hid hb; clear hb)
    go_ret
    exact ⟨rfl, HB.out⟩
  have g5 : decide (10 < tries) = false := decide_eq_false h5
  by_cases h6 : code < 1
  · have g6 : decide (code < 1) = true := decide_eq_true h6
    go_wp2_with (go_at_call 9; refine HAW.out.mono ?_; rintro a w2 ⟨rfl, hb⟩; have HB := Lib.hid hb; clear hb)
    go_ret
    exact ⟨rfl, HB.out⟩
  have g6 : decide (code < 1) = false := decide_eq_false h6
  by_cases h7 : 17 < code
  · have g7 : decide (17 < code) = true := decide_eq_true h7
    go_wp2_with (go_at_call 9; refine HAW.out.mono ?_; rintro a w2 ⟨rfl, hb⟩; have HB := Lib.hid hb; clear hb)
    go_ret
    exact ⟨rfl, HB.out⟩
  have g7 : decide (17 < code) = false := decide_eq_false h7
  obtain ⟨k, rfl⟩ : ∃ k : Nat, n = (k : Int) := ⟨n.toNat, by omega⟩
  obtain ⟨l, rfl⟩ : ∃ l : Nat, m = (l : Int) := ⟨m.toNat, by omega⟩
  obtain ⟨t, rfl⟩ : ∃ t : Nat, tries = (t : Int) := ⟨tries.toNat, by omega⟩
  have hk : 1 ≤ k ∧ k ≤ 20 := by omega
  have hl : 1 ≤ l ∧ l ≤ 20 := by omega
  have HK := Lib.hid (And.intro hk hl)
  clear hk hl
  go_upto_region 6 with (go_at_call 10; refine (cn.new_ok 7 1 w (by omega) (by omega)).mono ?_; rintro e w1 ⟨p, rfl, h1, h2⟩; have H1 := Lib.hid (And.intro h1 h2); clear h1 h2)
  clear g0 g1 g2 g3 g4 g5 g6 g7
  obtain ⟨L, hL⟩ : ∃ L, L = ca.bytes k 3 := ⟨_, rfl⟩
  obtain ⟨mm, hmm⟩ : ∃ mm, mm = L.length := ⟨_, rfl⟩
  have hlen := ca.len k 3 HK.out.1 (.inl rfl)
  have hmk := fun (A3 : Option Addr) (c3 : Nat) (wx : World) => ca.make k 3 HK.out.1 (.inl rfl) p 0 (cn.fresh w w1) A3 c3 wx
  rw [← hL] at hlen hmk
  rw [← hmm] at hlen hmk
  have HMK := Lib.hid hmk; clear hmk
  have HL := Lib.hid (And.intro hL hmm); clear hL hmm
  go_upto_region 10 with (first
    | (go_at_call 13; refine (HMK.out A2 c2 w2 (H1.out.1.below H2.out.2) H2.out.1 (by omega)).mono ?_; rintro e w3 ⟨A3, c3, F3, rfl, h1, h2, h4, h5, h6⟩; unfold cn.req; have H3 := Lib.hid (And.intro h1 (And.intro h2 (And.intro h4 (And.intro h5 h6)))); clear h1 h2 h4 h5 h6)
    | (go_at_call 12; refine (ca.records k 3 HK.out.1 w1).mono ?_; rintro e w2 ⟨A2, c2, rfl, h1, h2⟩; have H2 := Lib.hid (And.intro h1 h2); clear h1 h2))
  obtain ⟨w4, hw4⟩ : ∃ w4, w4 = w3.alloc (.cells #[.int .i64 4, .int .i64 1, .string (ByteArray.mk #[]), .string (ByteArray.mk #[116]), .int .i64 0, .int .i64 0, .int .i64 0, .int .i64 0, .string (ByteArray.mk #[]), .string (ByteArray.mk #[]), .int .i64 0, .slice none 0 0, .slice A3 mm c3] 35) := ⟨_, rfl⟩
  obtain ⟨ba, hba⟩ : ∃ ba, ba = w3.heap.size := ⟨_, rfl⟩
  rw [← hw4, ← hba]
  have hk4 : Blk w4 ba 35 #[.int .i64 4, .int .i64 1, .string (ByteArray.mk #[]), .string (ByteArray.mk #[116]), .int .i64 0, .int .i64 0, .int .i64 0, .int .i64 0, .string (ByteArray.mk #[]), .string (ByteArray.mk #[]), .int .i64 0, .slice none 0 0, .slice A3 mm c3] := by rw [hw4, hba]; exact Blk.new _ _ _
  have hc4 : Chg w3 w4 (fun _ => False) := by rw [hw4]; exact Chg.alloc _ _ _
  have hcn4 := H3.out.2.2.1.keep hc4 fun _ _ q => q
  have ho4 := hc4.own H3.out.1 fun _ _ q => q
  have hbl4 : Below w.heap.size w w4 := by
    have a1 : Chg w w2 (fun k => w.heap.size ≤ k) := ((chg_of (P := fun _ => False) H1.out.2).trans (chg_of (P := fun _ => False) H2.out.2) fun _ _ q => q).mono fun _ _ q => q.elim
    have a2 : Chg w w3 (fun k => w.heap.size ≤ k) := a1.trans H3.out.2.2.2.2 fun k _ q => q.1
    exact (a2.trans hc4 fun _ _ q => q.elim).below (Nat.le_refl _) fun _ q => q
  have hFw : ∀ q, F3 q → w.heap.size ≤ q := fun q hq => (H3.out.2.2.2.1 q hq).elim (fun x => x.1) fun x => by have h1 := H1.out.2.size; have h2 := H2.out.2.size; omega
  obtain ⟨A9, c9, e9, -, -, hat4⟩ := own_bytes (by rw [HL.out.2] at ho4; exact ho4)
  obtain ⟨rfl, rfl⟩ : A3 = A9 ∧ c3 = c9 := by injection e9 with e1 e2 e3; exact ⟨e1, e3⟩
  clear e9
  have H4 := Lib.hid (And.intro hk4 (And.intro hcn4 (And.intro hat4 (And.intro hbl4 hFw)))); clear hk4 hcn4 hat4 hbl4 hFw hw4 hba ho4 hc4
  clear h0 h1 h2 h3
  go_loopw [13] (fun i wx => ∃ (j : Nat), j ≤ t ∧ i = .int .i64 (j : Int) ∧ Below w4.heap.size w4 wx) (fun i _ => t - (intOf i).toNat)
  case atStart => exact ⟨0, by omega, rfl, Below.refl _ _⟩
  case round =>
    obtain ⟨j, hj, rfl, hbw⟩ := hrel
    by_cases hlt : j < t
    · have hlt' : (j : Int) < (t : Int) := by omega
      have hret := cn.retry_some p 7 1 1 _ (fun _ => 0) F3 0 wr (H4.out.2.1.below hbw) (by dsimp only; rw [← HL.out.2]; omega)
      dsimp only at hret
      rw [← HL.out.2] at hret
      have HR := Lib.hid (And.intro hret hbw); clear hret hbw
      go_upto_region 13 with (go_at_call 16; refine HR.out.1.mono ?_; rintro e w5 ⟨A5, c5, rfl, h1, h2⟩; unfold cn.req; have H5 := Lib.hid (And.intro h1 h2); clear h1 h2)
      obtain ⟨w6, hw6⟩ : ∃ w6, w6 = w5.alloc (.cells #[.int .i64 4, .int .i64 1, .string (ByteArray.mk #[]), .string aw.t.s, .int .i64 aw.t.p, .int .i64 0, .int .i64 0, .int .i64 0, .string (ByteArray.mk #[]), .string (ByteArray.mk #[]), .int .i64 0, .slice none 0 0, .slice A5 mm c5] 35) := ⟨_, rfl⟩
      obtain ⟨bb, hbb⟩ : ∃ bb, bb = w5.heap.size := ⟨_, rfl⟩
      rw [← hw6, ← hbb]
      have hkb : Blk w6 bb 35 #[.int .i64 4, .int .i64 1, .string (ByteArray.mk #[]), .string aw.t.s, .int .i64 aw.t.p, .int .i64 0, .int .i64 0, .int .i64 0, .string (ByteArray.mk #[]), .string (ByteArray.mk #[]), .int .i64 0, .slice none 0 0, .slice A5 mm c5] := by rw [hw6, hbb]; exact Blk.new _ _ _
      have hc6 : Chg w5 w6 (fun _ => False) := by rw [hw6]; exact Chg.alloc _ _ _
      have hbw6 : Below wr.heap.size wr w6 := by rw [hw6]; exact H5.out.2.alloc H5.out.2.size _
      have hb46 : Below w4.heap.size w4 w6 := HR.out.2.trans (hbw6.mono HR.out.2.size)
      have hka := (chg_of (P := fun _ => False) hb46).blk H4.out.1 fun q => q
      have ho6 := hc6.own H5.out.1 fun _ _ q => q
      obtain ⟨g5, rfl⟩ := ca.row_some ho6 (by omega)
      have hg5 := ho6.lt g5 rfl
      have hfr := ca.byte_frozen ho6 0
      obtain ⟨A9, c9, e9, -, -, hat6⟩ := own_bytes (by rw [HL.out.2] at ho6; exact ho6)
      obtain ⟨rfl, rfl⟩ : A9 = some ⟨g5, 0, none⟩ ∧ c5 = c9 := by injection e9 with e1 e2 e3; exact ⟨e1.symm, e3⟩
      clear e9
      have cv1 := conv_any (P := Try.prog) Try.underlying33 Try.underlying5 Try.underlying9 (c := c5) L HL.out.2.symm (by rw [HL.out.2]; exact hat6)
      have cv2 := conv_any (P := Try.prog) Try.underlying33 Try.underlying5 Try.underlying9 (c := c3) L HL.out.2.symm (by rw [HL.out.2]; exact H4.out.2.2.1.below hb46 (Nat.le_refl _))
      obtain ⟨str, hstr⟩ : ∃ str, str = strOf L := ⟨_, rfl⟩
      rw [← hstr] at cv1 cv2
      clear hstr
      obtain ⟨b9, o9, e9, -, hcc⟩ := hat6 (by rw [← HL.out.2]; omega)
      obtain ⟨rfl, rfl⟩ : g5 = b9 ∧ 0 = o9 := by simpa using e9
      have hc0 := hcc 0 (by rw [← HL.out.2]; omega)
      obtain ⟨y, hy⟩ : ∃ y : Nat, byteAt L 0 = .int .u8 (y : Int) := ⟨L.getD 0 0, rfl⟩
      rw [hy] at hc0
      clear hy hcc e9 hat6
      have hg5l := hg5.2
      have hgb : ¬ g5 = bb := fun e => by subst e; exact hkb.not_row (by decide) ho6 rfl
      have x1 := hkb.cell 1 rfl
      have x12 := hkb.cell 12 rfl
      have xl := hkb.lt
      have a1 := hka.cell 1 rfl
      have a12 := hka.cell 12 rfl
      have al := hka.lt
      have hset : ∀ v, Below wr.heap.size wr (w6.setCell ⟨g5, 0, none⟩ v) := fun v => hbw6.trans ((Chg.setCell w6 g5 0 v).below hbw6.size fun q hq => by rw [show q = g5 from hq]; exact hg5.1)
      have hdone := fun wx (hb : Below wr.heap.size wr wx) => cn.done_again p 7 1 1 _ (fun _ => 0) F3 0 0 none 0 0 wx ((H4.out.2.1.below HR.out.2).below hb) 7 (.inl rfl)
      have H6 := Lib.hid (And.intro hset hdone); clear hset hdone hkb hc6 hbw6 hb46 hka ho6 hg5 hw6 hbb
      have hm50 : 0 < mm := by omega
      go_upto_region 18 with (go_at_call 15; refine (H6.out.2 _ (H6.out.1 _)).mono ?_; rintro e w7 ⟨rfl, h1⟩; have H7 := Lib.hid ((H6.out.1 _).trans (h1.mono (H6.out.1 _).size)); clear h1)
      go_wp2_with fail
      exact ⟨⟨j + 1, by omega, by go_num, HR.out.2.trans (H7.out.mono HR.out.2.size)⟩, by simp [intOf]; omega⟩
    · obtain rfl : j = t := by omega
      have HB := Lib.hid hbw; clear hbw hlt
      by_cases hcode : code = 7 ∨ code = 15 ∨ code = 4
      · rcases hcode with rfl | rfl | rfl
        · have hdone := cn.done_again p 7 1 1 _ (fun _ => 0) F3 0 0 none 0 0 wr (H4.out.2.1.below HB.out) 7 (by omega)
          have HD := Lib.hid hdone; clear hdone
          go_upto_region 24 with (go_at_call 15; refine HD.out.mono ?_; rintro e w5 ⟨rfl, h1⟩; have H5 := Lib.hid h1; clear h1)
          have hcn5 := (H4.out.2.1.below HB.out).below H5.out
          have hret := cn.retry_some p 7 1 1 _ (fun _ => 0) F3 0 w5 hcn5 (by dsimp only; rw [← HL.out.2]; omega)
          dsimp only at hret
          rw [← HL.out.2] at hret
          have HR := Lib.hid (And.intro hret hcn5); clear hret hcn5
          go_upto_region 25 with (go_at_call 16; refine HR.out.1.mono ?_; rintro e w6 ⟨A5, c5, rfl, h1, h2⟩; unfold cn.req; have H6 := Lib.hid (And.intro h1 h2); clear h1 h2)
          obtain ⟨w7, hw7⟩ : ∃ w7, w7 = w6.alloc (.cells #[.int .i64 4, .int .i64 1, .string (ByteArray.mk #[]), .string aw.t.s, .int .i64 aw.t.p, .int .i64 0, .int .i64 0, .int .i64 0, .string (ByteArray.mk #[]), .string (ByteArray.mk #[]), .int .i64 0, .slice none 0 0, .slice A5 mm c5] 35) := ⟨_, rfl⟩
          rw [← hw7]
          have hb7 : Below w5.heap.size w5 w7 := by rw [hw7]; exact H6.out.2.alloc H6.out.2.size _
          have hseq := cn.seq_any aw.t p 7 1 1 _ (fun _ => 0) F3 0 w7 (HR.out.2.below hb7)
          have hw : Below w.heap.size w w7 := (H4.out.2.2.2.1.trans (HB.out.mono H4.out.2.2.2.1.size)).trans ((H5.out.trans (hb7.mono H5.out.size)).mono (Nat.le_trans H4.out.2.2.2.1.size HB.out.size))
          have HZ := Lib.hid (And.intro hseq hw); clear hseq hw hb7 hw7
          go_wp2_with (first
            | (go_at_call 9; refine (HAX.out w7 HZ.out.2).mono ?_; rintro e w8 ⟨rfl, h1⟩; have H8 := Lib.hid h1; clear h1)
            | (go_at_call 17; refine HZ.out.1.mono ?_; rintro e w7' ⟨rfl, h3⟩; subst h3))
          go_ret
          exact ⟨rfl, H8.out⟩
        · have hdone := cn.done_again p 7 1 1 _ (fun _ => 0) F3 0 0 none 0 0 wr (H4.out.2.1.below HB.out) 15 (by omega)
          have HD := Lib.hid hdone; clear hdone
          go_upto_region 24 with (go_at_call 15; refine HD.out.mono ?_; rintro e w5 ⟨rfl, h1⟩; have H5 := Lib.hid h1; clear h1)
          have hcn5 := (H4.out.2.1.below HB.out).below H5.out
          have hret := cn.retry_some p 7 1 1 _ (fun _ => 0) F3 0 w5 hcn5 (by dsimp only; rw [← HL.out.2]; omega)
          dsimp only at hret
          rw [← HL.out.2] at hret
          have HR := Lib.hid (And.intro hret hcn5); clear hret hcn5
          go_upto_region 25 with (go_at_call 16; refine HR.out.1.mono ?_; rintro e w6 ⟨A5, c5, rfl, h1, h2⟩; unfold cn.req; have H6 := Lib.hid (And.intro h1 h2); clear h1 h2)
          obtain ⟨w7, hw7⟩ : ∃ w7, w7 = w6.alloc (.cells #[.int .i64 4, .int .i64 1, .string (ByteArray.mk #[]), .string aw.t.s, .int .i64 aw.t.p, .int .i64 0, .int .i64 0, .int .i64 0, .string (ByteArray.mk #[]), .string (ByteArray.mk #[]), .int .i64 0, .slice none 0 0, .slice A5 mm c5] 35) := ⟨_, rfl⟩
          rw [← hw7]
          have hb7 : Below w5.heap.size w5 w7 := by rw [hw7]; exact H6.out.2.alloc H6.out.2.size _
          have hseq := cn.seq_any aw.t p 7 1 1 _ (fun _ => 0) F3 0 w7 (HR.out.2.below hb7)
          have hw : Below w.heap.size w w7 := (H4.out.2.2.2.1.trans (HB.out.mono H4.out.2.2.2.1.size)).trans ((H5.out.trans (hb7.mono H5.out.size)).mono (Nat.le_trans H4.out.2.2.2.1.size HB.out.size))
          have HZ := Lib.hid (And.intro hseq hw); clear hseq hw hb7 hw7
          go_wp2_with (first
            | (go_at_call 9; refine (HAX.out w7 HZ.out.2).mono ?_; rintro e w8 ⟨rfl, h1⟩; have H8 := Lib.hid h1; clear h1)
            | (go_at_call 17; refine HZ.out.1.mono ?_; rintro e w7' ⟨rfl, h3⟩; subst h3))
          go_ret
          exact ⟨rfl, H8.out⟩
        · have hdone := cn.done_again p 7 1 1 _ (fun _ => 0) F3 0 0 none 0 0 wr (H4.out.2.1.below HB.out) 4 (by omega)
          have HD := Lib.hid hdone; clear hdone
          go_upto_region 24 with (go_at_call 15; refine HD.out.mono ?_; rintro e w5 ⟨rfl, h1⟩; have H5 := Lib.hid h1; clear h1)
          have hcn5 := (H4.out.2.1.below HB.out).below H5.out
          have hret := cn.retry_some p 7 1 1 _ (fun _ => 0) F3 0 w5 hcn5 (by dsimp only; rw [← HL.out.2]; omega)
          dsimp only at hret
          rw [← HL.out.2] at hret
          have HR := Lib.hid (And.intro hret hcn5); clear hret hcn5
          go_upto_region 25 with (go_at_call 16; refine HR.out.1.mono ?_; rintro e w6 ⟨A5, c5, rfl, h1, h2⟩; unfold cn.req; have H6 := Lib.hid (And.intro h1 h2); clear h1 h2)
          obtain ⟨w7, hw7⟩ : ∃ w7, w7 = w6.alloc (.cells #[.int .i64 4, .int .i64 1, .string (ByteArray.mk #[]), .string aw.t.s, .int .i64 aw.t.p, .int .i64 0, .int .i64 0, .int .i64 0, .string (ByteArray.mk #[]), .string (ByteArray.mk #[]), .int .i64 0, .slice none 0 0, .slice A5 mm c5] 35) := ⟨_, rfl⟩
          rw [← hw7]
          have hb7 : Below w5.heap.size w5 w7 := by rw [hw7]; exact H6.out.2.alloc H6.out.2.size _
          have hseq := cn.seq_any aw.t p 7 1 1 _ (fun _ => 0) F3 0 w7 (HR.out.2.below hb7)
          have hw : Below w.heap.size w w7 := (H4.out.2.2.2.1.trans (HB.out.mono H4.out.2.2.2.1.size)).trans ((H5.out.trans (hb7.mono H5.out.size)).mono (Nat.le_trans H4.out.2.2.2.1.size HB.out.size))
          have HZ := Lib.hid (And.intro hseq hw); clear hseq hw hb7 hw7
          go_wp2_with (first
            | (go_at_call 9; refine (HAX.out w7 HZ.out.2).mono ?_; rintro e w8 ⟨rfl, h1⟩; have H8 := Lib.hid h1; clear h1)
            | (go_at_call 17; refine HZ.out.1.mono ?_; rintro e w7' ⟨rfl, h3⟩; subst h3))
          go_ret
          exact ⟨rfl, H8.out⟩
      · have n7 : ¬ code = 7 := by omega
        have n15 : ¬ code = 15 := by omega
        have n4 : ¬ code = 4 := by omega
        have d7 : (code == 7) = false := by simp [n7]
        have d15 : (code == 15) = false := by simp [n15]
        have d4 : (code == 4) = false := by simp [n4]
        have hdone := cn.done_bad p 7 1 1 _ (fun _ => 0) F3 0 0 none 0 0 wr (H4.out.2.1.below HB.out) code hcode (by omega)
        obtain ⟨L2, hL2⟩ : ∃ L2, L2 = ca.bytes l 5 := ⟨_, rfl⟩
        obtain ⟨m2, hm2⟩ : ∃ m2, m2 = L2.length := ⟨_, rfl⟩
        have hmk := fun (A3 : Option Addr) (c3 : Nat) (wx : World) => ca.make l 5 HK.out.2 (.inr rfl) p 1 F3 A3 c3 wx
        have hdec := fun (A3 : Option Addr) (c3 : Nat) (wx : World) => ca.decode l 5 HK.out.2 (.inr rfl) A3 c3 wx
        have hby : ∀ x ∈ L2, x < 256 := by rw [hL2]; exact ca.byte l 5 HK.out.2 (.inr rfl)
        rw [← hL2] at hmk hdec
        rw [← hm2] at hmk hdec
        have HD := Lib.hid (And.intro hdone (And.intro hmk (And.intro hdec hby))); clear hdone hmk hdec hby hL2 hm2 hcode
        go_upto_region 26 with (go_at_call 15; refine HD.out.1.mono ?_; rintro e w5 ⟨rfl, h1, h2⟩; have H5 := Lib.hid (And.intro h1 h2); clear h1 h2)
        go_upto_region 27 with (first
          | (go_at_call 13; refine (HD.out.2.1 A6 c6 w6 (H5.out.1.below H6.out.2) H6.out.1 (by omega)).mono ?_; rintro e w7 ⟨A7, c7, F7, rfl, h1, h2, h4, h5, h6⟩; unfold cn.req; have H7 := Lib.hid (And.intro h1 (And.intro h2 (And.intro h4 (And.intro h5 h6)))); clear h1 h2 h4 h5 h6)
          | (go_at_call 12; refine (ca.records l 5 HK.out.2 w5).mono ?_; rintro e w6 ⟨A6, c6, rfl, h1, h2⟩; have H6 := Lib.hid (And.intro h1 h2); clear h1 h2))
        obtain ⟨w8, hw8⟩ : ∃ w8, w8 = w7.alloc (.cells #[.int .i64 4, .int .i64 2, .string (ByteArray.mk #[]), .string (ByteArray.mk #[116]), .int .i64 0, .int .i64 0, .int .i64 0, .int .i64 0, .string (ByteArray.mk #[]), .string (ByteArray.mk #[]), .int .i64 0, .slice none 0 0, .slice A7 m2 c7] 35) := ⟨_, rfl⟩
        obtain ⟨b2, hb2⟩ : ∃ b2, b2 = w7.heap.size := ⟨_, rfl⟩
        rw [← hw8, ← hb2]
        have hk8 : Blk w8 b2 35 #[.int .i64 4, .int .i64 2, .string (ByteArray.mk #[]), .string (ByteArray.mk #[116]), .int .i64 0, .int .i64 0, .int .i64 0, .int .i64 0, .string (ByteArray.mk #[]), .string (ByteArray.mk #[]), .int .i64 0, .slice none 0 0, .slice A7 m2 c7] := by rw [hw8, hb2]; exact Blk.new _ _ _
        have hc8 : Chg w7 w8 (fun _ => False) := by rw [hw8]; exact Chg.alloc _ _ _
        have hdec := HD.out.2.2.1 A7 c7 w8 (ownsRow_base (hc8.own H7.out.1 fun _ _ q => q) (Nat.zero_le _)) HD.out.2.2.2
        have hcn8 := H7.out.2.2.1.keep hc8 fun _ _ q => q
        have y12 := hk8.cell 12 rfl
        have yl := hk8.lt
        have H8 := Lib.hid (And.intro hdec (And.intro hcn8 hc8)); clear hdec hcn8 hc8 hk8 hw8 hb2
        go_upto_region 28 with (go_at_call 20; refine H8.out.1.mono ?_; rintro e w9 ⟨lst, A9, c9, rfl, h1⟩; have H9 := Lib.hid h1; clear h1)
        clear y12 yl
        obtain ⟨w10, hw10⟩ : ∃ w10, w10 = w9.alloc (.cells #[.int .i64 0, .int .i64 lst, .int .i64 7, .int .i64 1, .int .i64 0, .slice A9 l c9] 42) := ⟨_, rfl⟩
        obtain ⟨b3, hb3⟩ : ∃ b3, b3 = w9.heap.size := ⟨_, rfl⟩
        rw [← hw10, ← hb3]
        have hk10 : Blk w10 b3 42 #[.int .i64 0, .int .i64 lst, .int .i64 7, .int .i64 1, .int .i64 0, .slice A9 l c9] := by rw [hw10, hb3]; exact Blk.new _ _ _
        have hc810 : Chg w8 w10 (fun _ => False) := by rw [hw10]; exact (chg_of (P := fun _ => False) H9.out).trans (Chg.alloc _ _ _) fun _ _ q => q
        have hcn10 := H8.out.2.1.keep hc810 fun _ _ q => q
        have hb3F : ¬ F7 b3 := fun q => by have h1 := H8.out.2.1.lt.2 b3 q; have h2 := H9.out.size; omega
        have hdn := cn.done_ok p 7 1 2 _ (fun _ => 0) F7 0 aw.t ⟨rfl, rfl⟩ 0 none 0 0 w10 hcn10 (by omega) (by omega) (by have := HK.out.2; dsimp only; omega)
        have H10 := Lib.hid (And.intro hk10 (And.intro hc810 (And.intro hb3F hdn))); clear hk10 hc810 hb3F hdn hcn10 hw10 hb3
        go_upto_region 29 with (go_at_call 15; refine H10.out.2.2.2.mono ?_; rintro e w11 ⟨rfl, h1, h2⟩; have H11 := Lib.hid (And.intro h1 h2); clear h1 h2)
        have hkb := H11.out.2.blk H10.out.1 H10.out.2.2.1
        have x4 := hkb.cell 4 rfl
        have x5 := hkb.cell 5 rfl
        have xl := hkb.lt
        have s1 : Calls Try.prog 17 #[.pointer (some ⟨p, 0, none⟩), .string (ByteArray.mk #[116]), .int .i64 0] w11 fun e w' => e = .returned (.int .i64 (l : Int)) ∧ w11 = w' := by
          refine (cn.seq_any aw.t p 7 1 2 none _ F7 1 w11 H11.out.1).mono ?_
          rintro e w' ⟨rfl, h⟩
          refine ⟨congrArg (fun v => Ending.returned (Value.int .i64 v)) ?_, h⟩
          unfold cn.upd
          rw [if_pos rfl]
          exact Int.zero_add _
        have s2 : Calls Try.prog 17 #[.pointer (some ⟨p, 0, none⟩), .string (ByteArray.mk #[117]), .int .i64 0] w11 fun e w' => e = .returned (.int .i64 0) ∧ w11 = w' := by
          refine (cn.seq_any aw.u p 7 1 2 none _ F7 1 w11 H11.out.1).mono ?_
          rintro e w' ⟨rfl, h⟩
          refine ⟨congrArg (fun v => Ending.returned (Value.int .i64 v)) ?_, h⟩
          unfold cn.upd
          rw [if_neg aw.ut]
        have hw : Below w.heap.size w w11 := by
          have hs4 := H4.out.2.2.2.1.size
          have hsb := HB.out.size
          have hs5 := H5.out.2.size
          have hs6 := H6.out.2.size
          have a1 : Chg w wr (fun q => w.heap.size ≤ q) := ((chg_of (P := fun q => w.heap.size ≤ q) H4.out.2.2.2.1).trans (chg_of (P := fun _ => False) HB.out) fun _ _ q => q.elim)
          have a2 : Chg w w5 (fun q => w.heap.size ≤ q) := a1.trans H5.out.2 fun q _ hq => H4.out.2.2.2.2 q hq
          have a3 : Chg w w6 (fun q => w.heap.size ≤ q) := a2.trans (chg_of (P := fun _ => False) H6.out.2) fun _ _ q => q.elim
          have a4 : Chg w w7 (fun q => w.heap.size ≤ q) := a3.trans H7.out.2.2.2.2 fun q _ hq => H4.out.2.2.2.2 q hq
          have a5 : Chg w w10 (fun q => w.heap.size ≤ q) := (a4.trans H8.out.2.2 fun _ _ q => q.elim).trans H10.out.2.1 fun _ _ q => q.elim
          exact (a5.trans H11.out.2 fun q _ hq => (H7.out.2.2.2.1 q hq).elim (H4.out.2.2.2.2 q) fun q => by omega).below (Nat.le_refl _) fun _ q => q
        have hone : (1 : Nat) = 1 := rfl
        have HZ := Lib.hid (And.intro s1 (And.intro s2 hw)); clear s1 s2 hw hkb
        go_wp2_with (first
          | (go_at_call 9; refine (HAX.out w11 HZ.out.2.2).mono ?_; rintro e w12 ⟨rfl, h1⟩; have H12 := Lib.hid h1; clear h1)
          | (go_at_call 17; clear HS1; refine HZ.out.2.1.mono ?_; rintro e w11' ⟨rfl, h3⟩; subst h3)
          | (go_at_call 17; refine HZ.out.1.mono ?_; rintro e w11' ⟨rfl, h3⟩; subst h3; have HS1 := Lib.hid hone))
        go_ret
        exact ⟨rfl, H12.out⟩
end Go.Proofs.Ytahncanmfjmfnaa
namespace Go.Proofs.Ytahncanmfjmfnaa.lawClientAgain
open Go.ChangeShapes Go.WideShapes Go.ChangeAt Go.RowKit

set_option maxRecDepth 100000 in
set_option linter.unusedVariables false in
theorem lifted (os : Os) (started : os.Started) (H : Type) (enc : TypeId × Value → H) :
    ReturnsInHanded {} Try.checked os 6 .any (Rows.clientAgainSpec.pre6 enc Try.prog Try.f6 Rows.clientAgainRow.domain false) (Rows.clientAgainSpec.post enc Try.prog Try.f6 false true false false) := by
  refine law_lifted os started 6 Try.f6 _ _ (by kernel_rfl) Try.func6
    (ChangeSpec.witness6 (enc := enc) (C := Try.checked) false ⟨#[], #[.int .i64 0, .int .i64 0, .int .i64 0, .int .i64 0], []⟩ 8 (by kernel_rfl) (by kernel_rfl) (by kernel_rfl) (by kernel_rfl)) rfl rfl (by kernel_rfl) ?_ ?_
  · intro ds hds
    rw [Try.params6] at hds
    match ds, hds with
    | [d0, d1, d2, d3], _ => rfl
  · intro W base args ds p hval hA hlt hsz
    rw [Try.params6] at hA hval hsz
    obtain ⟨v0, vs0, d0, ds0, p0, q0, hargs, rfl, rfl, h0, r0⟩ := trodAll_cons hA
    obtain ⟨v1, vs1, d1, ds1, p1, q1, rfl, rfl, rfl, h1, r1⟩ := trodAll_cons r0
    obtain ⟨v2, vs2, d2, ds2, p2, q2, rfl, rfl, rfl, h2, r2⟩ := trodAll_cons r1
    obtain ⟨v3, vs3, d3, ds3, p3, q3, rfl, rfl, rfl, h3, r3⟩ := trodAll_cons r2
    obtain ⟨rfl, rfl, rfl⟩ := trodAll_nil r3
    obtain rfl : args = #[v0, v1, v2, v3] := by cases args; simp_all
    obtain ⟨a0, rfl, rfl, rfl, w0⟩ := open_int Try.underlying3 (hval 0 3 v0 rfl rfl) h0
    obtain ⟨a1, rfl, rfl, rfl, w1⟩ := open_int Try.underlying3 (hval 1 3 v1 rfl rfl) h1
    obtain ⟨a2, rfl, rfl, rfl, w2⟩ := open_int Try.underlying3 (hval 2 3 v2 rfl rfl) h2
    obtain ⟨a3, rfl, rfl, rfl, w3⟩ := open_int Try.underlying3 (hval 3 3 v3 rfl rfl) h3
    exact law24.again a0 a1 a2 a3 W  

theorem over : Rows.clientAgainRow.holds Try.pinned (OpenSpec.ofChange Rows.clientAgainSpec) :=
  OpenClaim.holds_of_wide 6 Try.f6 rfl rfl rfl rfl rfl rfl rfl ⟨rfl, rfl, rfl, rfl, rfl⟩ rfl rfl rfl rfl rfl (by kernel_rfl) Try.func6 (by kernel_rfl)
    (of_decide_eq_true (by kernel_rfl)) (by unfold Func.isWrapper; first | (rw [if_pos (by decide +kernel)]; kernel_rfl) | (rw [if_neg (by decide +kernel)]; exact ⟨rfl, rfl⟩))
    (fun os started H enc _ => lifted os started H enc)

theorem proved : Rows.ClientAgainSaid :=
  over
#print axioms proved
end Go.Proofs.Ytahncanmfjmfnaa.lawClientAgain

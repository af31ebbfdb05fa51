/- The law ClientReads, whatever its arguments: it answers true and leaves them as they were. -/
import Derived.Test.YtahncanmfjmfnaaCnY
import Derived.Test.YtahncanmfjmfnaaRrE
import Derived.Test.YtahncanmfjmfnaaBrA
import Derived.Test.YtahncanmfjmfnaaBsC
import Derived.Test.YtahncanmfjmfnaaOpenS
namespace Go.Proofs.Ytahncanmfjmfnaa
open Go.RowKit Go.Maps
set_option maxRecDepth 100000

/-- Whether one lies lower. -/
def cr.low (o : Int) (rs : List Rec) : Bool := rs.any fun r => decide (r.off < o)
theorem cr.low_step (o : Int) (rs : List Rec) {j : Nat} {r : Rec} (h : rs[j]? = some r) : cr.low o (rs.take (j + 1)) = (cr.low o (rs.take j) || decide (r.off < o)) := by
  unfold cr.low
  rw [List.take_add_one, h, List.any_append]
  simp
theorem cr.low_rise (o : Int) : ∀ (rs : List Rec) (last ahead : Int), bat.chks last ahead rs = 0 → o ≤ ahead + 1 → cr.low o rs = false
  | [], _, _, _, _ => rfl
  | r :: rs, last, ahead, h, hn => by
    obtain ⟨h1, h2⟩ := cn.chks_step h
    show (decide (r.off < o) || cr.low o rs) = false
    rw [cr.low_rise o rs last r.off h2 (by omega), decide_eq_false (by omega)]
    rfl
/-- What a decoder says: a batch, or none. -/
def cr.bat (L : List Nat) : Bat := match dec.decode L with | none => ⟨0, 0, 0, 0, 0, []⟩ | some b => b
def cr.err (L : List Nat) : Int := match dec.decode L with | none => 2 | some _ => 0
def cr.bad (o : Int) (L : List Nat) : Bool := (decide (0 < L.length) && cr.err L != 0) || cr.low o (cr.bat L).recs
theorem cr.back {L : List Nat} (hL : ∀ x ∈ L, x < 256) {b : Bat} (h : dec.decode L = some b) : b.check = 0 := by
  unfold dec.decode at h
  split at h
  · cases h
  · rename_i b2 u h1
    split at h
    · obtain rfl : b2 = b := Option.some.inj h
      exact (dec.first_back hL h1).1
    · cases h
set_option maxRecDepth 20000 in
set_option maxHeartbeats 2000000 in
theorem cr.decode_own (A : Option Addr) (c : Nat) (L : List Nat) (w : World) (hat : At w A L.length (byteAt L)) (hb : ∀ x ∈ L, x < 256) (hn : L.length ≤ c) (hc : c ≤ maxLen) (hl : L.length ≤ 1000000) :
    Calls Try.prog 20 #[.slice A L.length c] w fun e w' => ((dec.decode L = none ∧ e = .returned (.tuple #[.agg #[.int .i64 0, .int .i64 0, .int .i64 0, .int .i64 0, .int .i64 0, .slice none 0 0], .int .i64 2])) ∨
      (∃ b A' c', dec.decode L = some b ∧ RowR w' w.heap.size (.slice A' b.recs.length c') b.recs ∧ e = .returned (.tuple #[b.hval A' b.recs.length c', .int .i64 0]))) ∧ Below w.heap.size w w' := by
  have hf := fun wx (h : Below w.heap.size w wx) => ref.first_any A c L.length L wx rfl (hat.below h (Nat.le_refl _)) hb hn hc hl
  have hdn : dec.first L = none → dec.decode L = none := fun h => by unfold dec.decode; rw [h]
  have hds : ∀ b u, dec.first L = some (b, u) → dec.decode L = if u = L.length then some b else none := fun b u h => by unfold dec.decode; rw [h]
  have HDN := Lib.hid hdn; clear hdn
  have HDS := Lib.hid hds; clear hds
  have HF := Lib.hid hf; clear hf hat hb
  unfold maxLen at hc
  generalize L.length = n at *
  go_enter Try.func20, Try.ntmps20
  go_wp2_with fail
  obtain ⟨w1, hw1⟩ : ∃ w1, w1 = w.alloc (.cells #[.int .i64 0, .int .i64 0, .int .i64 0, .int .i64 0, .int .i64 0, .slice none 0 0] 42) := ⟨_, rfl⟩
  try rw [← hw1]
  have hbk : Blk w1 w.heap.size 42 #[.int .i64 0, .int .i64 0, .int .i64 0, .int .i64 0, .int .i64 0, .slice none 0 0] := by rw [hw1]; exact Blk.new _ _ _
  have hb1 : Below w.heap.size w w1 := by rw [hw1]; exact (Below.refl _ w).alloc (Nat.le_refl _) _
  clear hw1
  have hlt1 : w.heap.size < w1.heap.size := hbk.lt
  refine (HF.out w1 hb1).mono ?_
  rintro e w5 ⟨hres, hb2⟩
  have hk5 := (chg_of (P := fun _ => False) hb2).blk hbk id
  have HB5 := Lib.hid (hb1.trans (hb2.mono hb1.size)); clear hb1 hb2 hbk
  have hlt := hk5.lt
  have HK5 := Lib.hid hk5; clear hk5
  have hk6 : ∀ cs, Blk (w5.alloc (.cells cs 42)) w.heap.size 42 #[.int .i64 0, .int .i64 0, .int .i64 0, .int .i64 0, .int .i64 0, .slice none 0 0] := fun cs => (Chg.alloc w5 (.cells cs 42) (fun _ => False)).blk HK5.out id
  have HK6 := Lib.hid hk6; clear hk6
  rcases hres with ⟨hno, rfl⟩ | ⟨b, u, A', c', hyes, hu50, -, hrv, rfl⟩
  · have HNO := Lib.hid (HDN.out hno); clear hno
    go_wp2_with (show Go.wpList _ _ _ (⟨_, .store _ (.tmp 2) (.tmp 19), _, _, _, _⟩ :: _) _ _; go_loud (refine wpList_store_row rfl 42 (.tmp 2) (.tmp 19) rfl w.heap.size #[.int .i64 0, .int .i64 0, .int .i64 0, .int .i64 0, .int .i64 0, .slice none 0 0] rfl rfl _ _ (HK6.out _) bat.info6 rfl (by simp [Value.oneCell']) ?_))
    have hk7 := (HK6.out #[.int .i64 0, .int .i64 0, .int .i64 0, .int .i64 0, .int .i64 0, .slice none 0 0]).row #[.int .i64 0, .int .i64 0, .int .i64 0, .int .i64 0, .int .i64 0, .slice none 0 0]
    have hb6 := HB5.out.alloc HB5.out.size (.cells #[.int .i64 0, .int .i64 0, .int .i64 0, .int .i64 0, .int .i64 0, .slice none 0 0] 42)
    refine bodyPost_ret (res_cell2 rfl _ _ _ _ _ rfl hk7 Try.underlying42 rfl bat.info6) rfl ?_
    exact ⟨.inl ⟨HNO.out, rfl⟩, hb6.trans ((Chg.setRow _ _ _).below hb6.size fun k hk => by have hk : k = w.heap.size := hk; omega)⟩
  · have hd := HDS.out b u hyes
    obtain ⟨nv, hnv⟩ : ∃ nv, nv = b.recs.length := ⟨_, rfl⟩
    have hrv2 := hrv
    unfold Bat.hval
    rw [← hnv] at hrv2 ⊢
    have HNV := Lib.hid hnv; clear hnv hyes hrv
    have HRV := Lib.hid hrv2; clear hrv2
    have hb6 := HB5.out.alloc HB5.out.size (.cells #[.int .i64 b.base, .int .i64 b.last, .int .i64 b.prod, .int .i64 b.epoch, .int .i64 b.seq, .slice A' nv c'] 42)
    have HB6 := Lib.hid hb6; clear hb6
    by_cases hu : u = n
    · subst hu
      rw [if_pos rfl] at hd
      have HD := Lib.hid hd; clear hd
      go_wp2_with (show Go.wpList _ _ _ (⟨_, .store _ (.tmp 2) (.tmp 20), _, _, _, _⟩ :: _) _ _; go_loud (refine wpList_store_row rfl 42 (.tmp 2) (.tmp 20) rfl w.heap.size #[.int .i64 b.base, .int .i64 b.last, .int .i64 b.prod, .int .i64 b.epoch, .int .i64 b.seq, .slice A' nv c'] rfl rfl _ _ (HK6.out _) bat.info6 rfl (by simp [Value.oneCell']) ?_))
      have hk7 := (HK6.out #[.int .i64 b.base, .int .i64 b.last, .int .i64 b.prod, .int .i64 b.epoch, .int .i64 b.seq, .slice A' nv c']).row #[.int .i64 b.base, .int .i64 b.last, .int .i64 b.prod, .int .i64 b.epoch, .int .i64 b.seq, .slice A' nv c']
      refine bodyPost_ret (res_cell2 rfl _ _ _ _ _ rfl hk7 Try.underlying42 rfl bat.info6) rfl ?_
      refine ⟨.inr ⟨b, A', c', HD.out, ?_, ?_⟩, HB6.out.trans ((Chg.setRow _ _ _).below HB6.out.size fun k hk => by have hk : k = w.heap.size := hk; omega)⟩
      · rw [← HNV.out]
        refine (HRV.out.chg ((Chg.alloc w5 (.cells #[.int .i64 b.base, .int .i64 b.last, .int .i64 b.prod, .int .i64 b.epoch, .int .i64 b.seq, .slice A' nv c'] 42) (fun k => k = w.heap.size)).trans (Chg.setRow _ w.heap.size _) (fun _ _ h => h)) (fun g h1 _ h3 => by have h3 : g = w.heap.size := h3; omega)).up (Nat.le_of_lt hlt1)
      · unfold Bat.hval
        rw [← HNV.out]
        rfl
    · have hd2 : ((u : Int) != (n : Int)) = true := by simp; omega
      rw [if_neg hu] at hd
      have HD := Lib.hid hd; clear hd hu
      go_wp2_with (show Go.wpList _ _ _ (⟨_, .store _ (.tmp 2) (.tmp 19), _, _, _, _⟩ :: _) _ _; go_loud (refine wpList_store_row rfl 42 (.tmp 2) (.tmp 19) rfl w.heap.size #[.int .i64 0, .int .i64 0, .int .i64 0, .int .i64 0, .int .i64 0, .slice none 0 0] rfl rfl _ _ (HK6.out _) bat.info6 rfl (by simp [Value.oneCell']) ?_))
      have hk7 := (HK6.out #[.int .i64 b.base, .int .i64 b.last, .int .i64 b.prod, .int .i64 b.epoch, .int .i64 b.seq, .slice A' nv c']).row #[.int .i64 0, .int .i64 0, .int .i64 0, .int .i64 0, .int .i64 0, .slice none 0 0]
      refine bodyPost_ret (res_cell2 rfl _ _ _ _ _ rfl hk7 Try.underlying42 rfl bat.info6) rfl ?_
      exact ⟨.inl ⟨HD.out, rfl⟩, HB6.out.trans ((Chg.setRow _ _ _).below HB6.out.size fun k hk => by have hk : k = w.heap.size := hk; omega)⟩
theorem cr.decode (A : Option Addr) (c : Nat) (L : List Nat) (w : World) (hat : At w A L.length (byteAt L)) (hb : ∀ x ∈ L, x < 256) (hn : L.length ≤ c) (hc : c ≤ maxLen) (hl : L.length ≤ 1000000) :
    Calls Try.prog 20 #[.slice A L.length c] w fun e w' => (∃ A' c', e = .returned (.tuple #[(cr.bat L).hval A' (cr.bat L).recs.length c', .int .i64 (cr.err L)]) ∧ RowR w' w.heap.size (.slice A' (cr.bat L).recs.length c') (cr.bat L).recs) ∧ Below w.heap.size w w' := by
  refine (cr.decode_own A c L w hat hb hn hc hl).mono ?_
  unfold cr.bat cr.err
  rintro e w' ⟨h | ⟨b, A', c', h1, h2, h3⟩, hb⟩
  · rw [h.1, h.2]
    exact ⟨⟨none, 0, rfl, RowR.nil _ _⟩, hb⟩
  · rw [h1, h3]
    exact ⟨⟨A', c', rfl, h2⟩, hb⟩
theorem cr.self : ∀ rs : List Rec, recsSame rs rs = true
  | [] => rfl
  | r :: rs => by
    show (decide (r.Same r) && recsSame rs rs) = true
    rw [cr.self rs, decide_eq_true (show r.Same r from ⟨rfl, rfl, rfl, rfl, rfl, rfl⟩)]
    rfl
theorem cr.bound {L : List Nat} (hL : ∀ x ∈ L, x < 256) : ∀ r ∈ (cr.bat L).recs, 0 ≤ r.off ∧ r.off ≤ 4611686018427387904 := by
  intro r hr
  unfold cr.bat at hr
  split at hr
  · cases hr
  · rename_i b h
    have := (Bat.check_ok (cr.back hL h)).2.2.1 r hr
    exact ⟨this.2.2.1, this.2.2.2.1⟩
theorem cr.field1 (o : Int) (w : World) : (Instr.field 35 (.agg #[.int .i64 5, .int .i64 2, .string (ByteArray.mk #[]), .string (ByteArray.mk #[116]), .int .i64 3, .int .i64 o, .int .i64 0, .int .i64 1, .string (ByteArray.mk #[]), .string (ByteArray.mk #[]), .int .i64 0, .slice none 0 0, .slice none 0 0]) 1).run Try.prog w = .ok (.int .i64 2) w := by kernel_rfl
theorem cr.dec_nil : dec.decode [] = none := by kernel_rfl
/-- What is bad is refused. -/
theorem cr.got_bad (r : Nat) (t : ByteArray) (offset : Int) (A : Option Addr) (c : Nat) (L : List Nat) (w : World) (h : RdrAt w r t 3 offset 1) (hat : At w A L.length (byteAt L)) (hb : ∀ x ∈ L, x < 256) (hn : L.length ≤ c) (hc : c ≤ maxLen) (ho : 0 ≤ offset ∧ offset ≤ 4611686018427387904) (hbad : cr.bad offset L = true) :
    Calls Try.prog 21 #[.pointer (some ⟨r, 0, none⟩), .agg (cn.resp 1 0 0 (.slice A L.length c))] w fun e w' => e = .returned (.tuple #[.slice none 0 0, .int .i64 2]) ∧ RdrAt w' r t 3 offset 1 ∧ Chg w w' (fun k => k = r) := by
  have hl : 0 < L.length := by
    cases L with
    | nil =>
      unfold cr.bad cr.bat at hbad
      rw [cr.dec_nil] at hbad
      simp [cr.low] at hbad
    | cons x xs => exact Nat.succ_pos _
  have hgot := cn.got_any r t 3 offset 1 0 A c L w h (by omega) hat hb hn hc hl (fun y hy z hz => by
      have := (Bat.check_ok (cr.back hb hy)).2.2.1 z hz
      exact ⟨this.2.2.1, this.2.2.2.1⟩) (by omega) (fun y hy => (Bat.check_ok (cr.back hb hy)).2.1)
  refine hgot.mono ?_
  rintro e w' ⟨h1, h2⟩
  have hR : ((dec.decode L).bind fun b => (cn.next offset b.recs).map fun nx => (b, nx)) = none := by
    cases hd : dec.decode L with
    | none => rfl
    | some b =>
      have hck := cr.back hb hd
      unfold cr.bad cr.bat cr.err at hbad
      rw [hd] at hbad
      have hlow : cr.low offset b.recs = true := by simpa using hbad
      show (cn.next offset b.recs).map _ = none
      cases hx : b.recs with
      | nil => rw [hx] at hlow; cases hlow
      | cons f fs =>
        have hfo : f.off < offset := by
          refine Decidable.by_contra fun q => ?_
          have h3 := cn.chks_of hck
          rw [hx] at h3 hlow
          have h4 := cr.low_rise offset fs b.last f.off (cn.chks_step h3).2 (by omega)
          have h5 : (decide (f.off < offset) || cr.low offset fs) = true := hlow
          rw [h4, decide_eq_false q] at h5
          cases h5
        rw [← hx, cn.next_bad hx offset hfo]
        rfl
  rw [hR] at h1
  exact ⟨h1.1, h1.2, h2⟩
/-- What is not bad is taken. -/
theorem cr.got_fine (r : Nat) (t : ByteArray) (offset : Int) (A : Option Addr) (c : Nat) (L : List Nat) (w : World) (h : RdrAt w r t 3 offset 1) (hat : At w A L.length (byteAt L)) (hb : ∀ x ∈ L, x < 256) (hn : L.length ≤ c) (hc : c ≤ maxLen) (ho : 0 ≤ offset ∧ offset ≤ 4611686018427387904) (hbad : cr.bad offset L = false) :
    Calls Try.prog 21 #[.pointer (some ⟨r, 0, none⟩), .agg (cn.resp 1 0 0 (.slice A L.length c))] w fun e w' => ∃ A5 c5, e = .returned (.tuple #[.slice A5 (cr.bat L).recs.length c5, .int .i64 0]) ∧ RecsV w' (.slice A5 (cr.bat L).recs.length c5) (cr.bat L).recs ∧ RdrAt w' r t 3 (cn.behind offset (cr.bat L).recs) 1 ∧ Chg w w' (fun k => k = r) := by
  cases L with
  | nil =>
    refine (cn.got_empty r t 3 offset 1 0 A c w h (by omega)).mono ?_
    rintro e w' ⟨rfl, h1⟩
    have e0 : cr.bat [] = ⟨0, 0, 0, 0, 0, []⟩ := by unfold cr.bat; rw [cr.dec_nil]
    rw [e0]
    exact ⟨none, 0, rfl, RecsV.none5 _, (chg_of (P := fun _ => False) h1).blk h fun q => q, chg_of h1⟩
  | cons x xs =>
  have hl : 0 < (x :: xs).length := Nat.succ_pos _
  generalize x :: xs = L at *
  have hgot := cn.got_any r t 3 offset 1 0 A c L w h (by omega) hat hb hn hc hl (fun y hy z hz => by
      have := (Bat.check_ok (cr.back hb hy)).2.2.1 z hz
      exact ⟨this.2.2.1, this.2.2.2.1⟩) (by omega) (fun y hy => (Bat.check_ok (cr.back hb hy)).2.1)
  refine hgot.mono ?_
  rintro e w' ⟨h1, h2⟩
  cases hd : dec.decode L with
  | none =>
    exfalso
    unfold cr.bad cr.bat cr.err at hbad
    rw [hd, decide_eq_true hl] at hbad
    simp at hbad
  | some b =>
    have hck := cr.back hb hd
    have eb : cr.bat L = b := by unfold cr.bat; rw [hd]
    rw [eb]
    unfold cr.bad at hbad
    rw [eb] at hbad
    have hlow : cr.low offset b.recs = false := by
      cases hq : cr.low offset b.recs with
      | false => rfl
      | true => rw [hq, Bool.or_true] at hbad; cases hbad
    have hnx : cn.next offset b.recs = some (cn.behind offset b.recs) := by
      cases hx : b.recs with
      | nil => rfl
      | cons f fs =>
        have hfo : ¬ f.off < offset := fun q => by
          rw [hx] at hlow
          have h5 : (decide (f.off < offset) || cr.low offset fs) = false := hlow
          rw [decide_eq_true q] at h5
          cases h5
        rw [← hx, cn.next_ok hck hx offset hfo, hx]
        rfl
    have hR : ((dec.decode L).bind fun b => (cn.next offset b.recs).map fun nx => (b, nx)) = some (b, cn.behind offset b.recs) := by
      rw [hd]
      show (cn.next offset b.recs).map _ = _
      rw [hnx]
      rfl
    rw [hR] at h1
    obtain ⟨A2, c2, h3, h4, h5⟩ := h1
    exact ⟨A2, c2, h3, h4, h5, h2⟩
set_option maxHeartbeats 8000000 in
theorem law24.reads (offset corr code : Int) (A : Option Addr) (n c : Nat) (z : List Int) (most : Int) (w : World) (hm : z.length = n ∧ n ≤ c ∧ c ≤ maxLen) (hat0 : At w A n (fun j => .int .u8 (z.getD j 0))) (hz : ∀ x ∈ z, (Lit.int .u8 x).wf = true) :
    Calls Try.prog 4 #[.int .i64 offset, .int .i64 corr, .int .i64 code, .slice A n c, .int .i64 most] w fun e w' => e = .returned (.bool true) ∧ Below w.heap.size w w' := by
  obtain ⟨hzn, hnc, hcm⟩ := hm
  obtain ⟨hat, hby0⟩ := ints_bytes hat0 hzn hz
  obtain ⟨L, hL⟩ : ∃ L, L = z.map Int.toNat := ⟨_, rfl⟩
  have hln : L.length = n := by rw [hL, List.length_map]; exact hzn
  rw [← hL] at hat hby0
  have hby : ∀ x ∈ L, x < 256 := by
    intro x hx
    obtain ⟨j, hj⟩ := List.mem_iff_getElem?.1 hx
    have h1 := (List.getElem?_eq_some_iff.1 hj).1
    have h2 := hby0 j (by omega)
    simpa [List.getD, hj] using h2
  clear hby0 hat0 hz hzn hL
  have haw : ∀ wx, Below w.heap.size w wx → Calls Try.prog 9 #[] wx fun a w' => a = .returned (.bool true) ∧ Below w.heap.size w w' := fun wx h => by
    refine (law24.awake wx).mono ?_
    rintro a w' ⟨h1, h2⟩
    exact ⟨h1, h.trans (h2.mono h.size)⟩
  have HAX := Lib.hid haw; clear haw
  have hbw : Below w.heap.size w w := Below.refl _ _
  have HX := Lib.hid (And.intro hat (And.intro hby (And.intro hln hbw))); clear hat hby hln hbw
  go_enter Try.func4, Try.ntmps4
  by_cases n0 : 3000 < n
  · have gn0 : decide (3000 < (n : Int)) = true := decide_eq_true (by omega)
    go_wp2_with (go_at_call 9; refine (HAX.out w HX.out.2.2.2).mono ?_; rintro a w9 ⟨rfl, hb⟩; have HB9 := Lib.hid hb; clear hb)
    go_ret
    exact ⟨rfl, HB9.out⟩
  have gn0 : decide (3000 < (n : Int)) = false := decide_eq_false (by omega)
  by_cases n1 : code < 0
  · have gn1 : decide (code < 0) = true := decide_eq_true (by omega)
    go_wp2_with (go_at_call 9; refine (HAX.out w HX.out.2.2.2).mono ?_; rintro a w9 ⟨rfl, hb⟩; have HB9 := Lib.hid hb; clear hb)
    go_ret
    exact ⟨rfl, HB9.out⟩
  have gn1 : decide (code < 0) = false := decide_eq_false (by omega)
  by_cases n2 : 100 < code
  · have gn2 : decide (100 < code) = true := decide_eq_true (by omega)
    go_wp2_with (go_at_call 9; refine (HAX.out w HX.out.2.2.2).mono ?_; rintro a w9 ⟨rfl, hb⟩; have HB9 := Lib.hid hb; clear hb)
    go_ret
    exact ⟨rfl, HB9.out⟩
  have gn2 : decide (100 < code) = false := decide_eq_false (by omega)
  by_cases ho : 0 ≤ offset ∧ offset ≤ 4611686018427387904
  case neg =>
    have hbad := cn.reader_bad (ByteArray.mk #[116]) 3 offset w ho
    have HBAD := Lib.hid hbad; clear hbad
    by_cases n3 : offset < 0
    · have gn3 : decide (0 ≤ offset) = false := decide_eq_false (by omega)
      clear ho
      go_wp2_with (first
        | (go_at_call 9; refine (HAX.out w HX.out.2.2.2).mono ?_; rintro a w9 ⟨rfl, hb⟩; have HB9 := Lib.hid hb; clear hb)
        | (go_at_call 18; refine HBAD.out.mono ?_; rintro e w2 ⟨rfl, h1⟩; subst h1))
      go_ret
      exact ⟨rfl, HB9.out⟩
    · have gn3 : decide (0 ≤ offset) = true := decide_eq_true (by omega)
      have gn4 : decide (offset ≤ 4611686018427387904) = false := decide_eq_false (by omega)
      clear ho
      go_wp2_with (first
        | (go_at_call 9; refine (HAX.out w HX.out.2.2.2).mono ?_; rintro a w9 ⟨rfl, hb⟩; have HB9 := Lib.hid hb; clear hb)
        | (go_at_call 18; refine HBAD.out.mono ?_; rintro e w2 ⟨rfl, h1⟩; subst h1))
      go_ret
      exact ⟨rfl, HB9.out⟩
  have gn3 : decide (0 ≤ offset) = true := decide_eq_true ho.1
  have gn4 : decide (offset ≤ 4611686018427387904) = true := decide_eq_true ho.2
  have hnew := cn.reader_ok (ByteArray.mk #[116]) 3 offset w ho
  have HO := Lib.hid ho; clear ho
  obtain ⟨r, hr⟩ : ∃ r, r = w.heap.size := ⟨_, rfl⟩
  rw [← hr] at hnew
  have HN := Lib.hid hnew; clear hnew
  have HR := Lib.hid hr; clear hr
  go_upto_region 9 with (go_at_call 18; refine HN.out.mono ?_; rintro e w2 ⟨rfl, h1, h2⟩; have H2 := Lib.hid (And.intro h1 h2); clear h1 h2)
  clear gn0 gn1 gn2 gn3 gn4
  have hask := cn.ask_any r (ByteArray.mk #[116]) 3 offset 0 most w2 H2.out.1 (by omega)
  have HA := Lib.hid hask; clear hask
  go_upto_region 10 with (go_at_call 19; refine HA.out.mono ?_; rintro e w3 ⟨rfl, h1, h2⟩; unfold cn.fetch; have H3 := Lib.hid (And.intro h1 h2); clear h1 h2)
  obtain ⟨w4, hw4⟩ : ∃ w4, w4 = w3.alloc (.cells #[.int .i64 5, .int .i64 1, .string (ByteArray.mk #[]), .string (ByteArray.mk #[116]), .int .i64 3, .int .i64 offset, .int .i64 0, .int .i64 most, .string (ByteArray.mk #[]), .string (ByteArray.mk #[]), .int .i64 0, .slice none 0 0, .slice none 0 0] 35) := ⟨_, rfl⟩
  obtain ⟨b1, hb1⟩ : ∃ b1, b1 = w3.heap.size := ⟨_, rfl⟩
  rw [← hw4, ← hb1]
  have hk4 : Blk w4 b1 35 #[.int .i64 5, .int .i64 1, .string (ByteArray.mk #[]), .string (ByteArray.mk #[116]), .int .i64 3, .int .i64 offset, .int .i64 0, .int .i64 most, .string (ByteArray.mk #[]), .string (ByteArray.mk #[]), .int .i64 0, .slice none 0 0, .slice none 0 0] := by rw [hw4, hb1]; exact Blk.new _ _ _
  have hc34 : Chg w3 w4 (fun _ => False) := by rw [hw4]; exact Chg.alloc _ _ _
  have hrd4 : RdrAt w4 r (ByteArray.mk #[116]) 3 offset 1 := hc34.blk H3.out.1 fun q => q
  have hc04 : Chg w w4 (fun k => w.heap.size ≤ k) := ((chg_of (P := fun k => w.heap.size ≤ k) (show Below w.heap.size w w2 by rw [← HR.out]; exact H2.out.2)).trans H3.out.2 fun k _ e => by rw [show k = r from e, HR.out]; exact Nat.le_refl _).trans hc34 fun _ _ q => q.elim
  have y0 := hk4.cell 0 (v := .int .i64 5) rfl
  have y1 := hk4.cell 1 (v := .int .i64 1) rfl
  have y3 := hk4.cell 3 (v := .string (ByteArray.mk #[116])) rfl
  have y4 := hk4.cell 4 (v := .int .i64 3) rfl
  have y5 := hk4.cell 5 (v := .int .i64 offset) rfl
  have y7 := hk4.cell 7 (v := .int .i64 most) rfl
  have yl := hk4.lt
  have H4 := Lib.hid (And.intro hrd4 hc04); clear hrd4 hc04 hc34 hk4 hw4 hb1
  go_upto_region 12 with fail
  clear y0 y1 y3 y4 y5 y7 yl
  have hb4 : Below w.heap.size w w4 := H4.out.2.below (Nat.le_refl _) fun _ q => q
  have hat4 : At w4 A L.length (byteAt L) := by rw [HX.out.2.2.1]; exact HX.out.1.below hb4 (Nat.le_refl _)
  have hdec := cr.decode A c L w4 hat4 HX.out.2.1 (by rw [HX.out.2.2.1]; exact hnc) hcm (by rw [HX.out.2.2.1]; omega)
  rw [HX.out.2.2.1] at hdec
  obtain ⟨B, hB⟩ : ∃ B, B = cr.bat L := ⟨_, rfl⟩
  obtain ⟨E, hE⟩ : ∃ E, E = cr.err L := ⟨_, rfl⟩
  obtain ⟨X, hX⟩ : ∃ X, X = (decide (0 < n) && E != 0) := ⟨_, rfl⟩
  obtain ⟨nr, hnr⟩ : ∃ nr, nr = B.recs.length := ⟨_, rfl⟩
  have hbad : cr.bad offset L = (X || cr.low offset B.recs) := by unfold cr.bad; rw [← hB, ← hE, HX.out.2.2.1, hX]
  have hE2 : E = 0 ∨ E = 2 := by rw [hE]; unfold cr.err; split <;> simp
  rw [← hB, ← hE, ← hnr] at hdec
  unfold Bat.hval at hdec
  have HD := Lib.hid (And.intro hdec (And.intro hB (And.intro hE (And.intro hX (And.intro hnr (And.intro hbad hb4)))))); clear hdec hB hE hX hnr hbad hb4 hat4
  go_upto_region 13 with (go_at_call 20; refine HD.out.1.mono ?_; rintro e w5 ⟨⟨Av, cv, rfl, h1⟩, h2⟩; have H5 := Lib.hid (And.intro h1 h2); clear h1 h2)
  obtain ⟨w6, hw6⟩ : ∃ w6, w6 = w5.alloc (.cells #[.int .i64 B.base, .int .i64 B.last, .int .i64 B.prod, .int .i64 B.epoch, .int .i64 B.seq, .slice Av nr cv] 42) := ⟨_, rfl⟩
  obtain ⟨b2, hb2⟩ : ∃ b2, b2 = w5.heap.size := ⟨_, rfl⟩
  rw [← hw6, ← hb2]
  have hk6 : Blk w6 b2 42 #[.int .i64 B.base, .int .i64 B.last, .int .i64 B.prod, .int .i64 B.epoch, .int .i64 B.seq, .slice Av nr cv] := by rw [hw6, hb2]; exact Blk.new _ _ _
  have hc56 : Chg w5 w6 (fun _ => False) := by rw [hw6]; exact Chg.alloc _ _ _
  have hv6 : RecsV w6 (.slice Av nr cv) B.recs := by
    have h1 := H5.out.1.chg hc56 fun _ _ _ q => q
    obtain ⟨A8, c8, e8, h2⟩ := h1.recsV
    obtain ⟨rfl, rfl⟩ : Av = A8 ∧ cv = c8 := by injection e8 with e1 e2 e3; exact ⟨e1, e3⟩
    rw [← HD.out.2.2.2.2.1] at h2
    exact h2
  have hc46 : Chg w4 w6 (fun _ => False) := (chg_of (P := fun _ => False) H5.out.2).trans hc56 fun _ _ q => q
  have hrb : b2 ≠ r := by have h1 := H4.out.1.lt; have h2 := H5.out.2.size; omega
  have H6 := Lib.hid (And.intro hk6 (And.intro hv6 (And.intro hc46 (And.intro hrb hc56)))); clear hk6 hv6 hc46 hrb hc56 hw6 hb2
  go_cut [17] from 104 to 110 (fun s17 wx => s17 = .bool X ∧ wx = w6)
  case first =>
    by_cases h0 : 0 < n
    · have d0 : decide (0 < n) = true := decide_eq_true h0
      have d1 : decide ((0 : Int) < (n : Int)) = true := decide_eq_true (by omega)
      have hx := HD.out.2.2.2.1
      rw [d0] at hx
      rcases hE2 with e | e
      · subst e
        go_wp2_with fail
        go_meet
        case rel => exact ⟨by rw [hx]; rfl, rfl⟩
      · subst e
        go_wp2_with fail
        go_meet
        case rel => exact ⟨by rw [hx]; rfl, rfl⟩
    · have d0 : decide (0 < n) = false := decide_eq_false h0
      have d1 : decide ((0 : Int) < (n : Int)) = false := decide_eq_false (by omega)
      have hx := HD.out.2.2.2.1
      rw [d0] at hx
      clear hE2
      go_wp2_with fail
      go_meet
      case rel => exact ⟨by rw [hx]; rfl, rfl⟩
  case rest =>
    obtain ⟨rfl, rfl⟩ := hcut
    clear hE2
    have hnrl : nr ≤ maxLen := by
      obtain ⟨A', c', V, h, h1, h2, -⟩ := H6.out.2.1
      rw [HD.out.2.2.2.2.1]
      exact Nat.le_trans h1 h2
    unfold maxLen at hnrl
    go_wp2_with fail
    go_loopw [17, 18] (fun x i wx => ∃ (j : Nat), j ≤ nr ∧ i = .int .i64 (j : Int) ∧ x = .bool (X || cr.low offset (B.recs.take j)) ∧ Below wc.heap.size wc wx) (fun _ i _ => nr - (intOf i).toNat)
    case atStart => exact ⟨0, by omega, rfl, by simp [cr.low], Below.refl _ _⟩
    case round =>
      obtain ⟨j, hj, rfl, rfl, hbw⟩ := hrel
      obtain ⟨Y, hY⟩ : ∃ Y, Y = (X || cr.low offset (B.recs.take j)) := ⟨_, rfl⟩
      rw [← hY]
      have hkr := (chg_of (P := fun _ => False) hbw).blk H6.out.1 fun q => q
      have k5 := hkr.cell 5 (v := .slice Av nr cv) rfl
      have kl := hkr.lt
      have HB := Lib.hid hbw; clear hbw
      have HY := Lib.hid hY; clear hY
      by_cases hlt : j < nr
      · have hlt' : (j : Int) < (nr : Int) := by omega
        obtain ⟨x, hx⟩ : ∃ x, B.recs[j]? = some x := ⟨_, List.getElem?_eq_getElem (by rw [← HD.out.2.2.2.2.1]; exact hlt)⟩
        have hv := H6.out.2.1
        obtain ⟨b, off, cc, kv, vv, eA, -, -, hbl, f0, -⟩ := hv.at' hx
        obtain ⟨rfl, rfl⟩ : Av = some ⟨b, off, none⟩ ∧ cv = cc := by injection eA with e1 e2 e3; exact ⟨e1, e3⟩
        have g0 := (HB.out.cell (p := ⟨b, off + j * 6, none⟩) hbl).trans f0
        have gl : b < wr.heap.size := Nat.lt_of_lt_of_le hbl HB.out.size
        have hst : (X || cr.low offset (B.recs.take (j + 1))) = (Y || decide (x.off < offset)) := by rw [cr.low_step offset B.recs hx, HY.out, Bool.or_assoc]
        have HS := Lib.hid (And.intro hst hx); clear hst hx eA hv f0
        cases Y with
        | true =>
          go_wp2_with fail
          exact ⟨⟨j + 1, by omega, by go_num, by rw [HS.out.1]; rfl, HB.out⟩, by simp [intOf]; omega⟩
        | false =>
          go_wp2_with fail
          exact ⟨⟨j + 1, by omega, by go_num, by rw [HS.out.1]; rfl, HB.out⟩, by simp [intOf]; omega⟩
      · obtain rfl : nr = j := by omega
        clear hlt
        go_upto_region 18 with fail
        clear k5 kl
        have hYb : Y = cr.bad offset L := by rw [HY.out, HD.out.2.2.2.2.2.1, HD.out.2.2.2.2.1, List.take_length]
        have hc4r : Chg w4 wr (fun _ => False) := H6.out.2.2.1.trans (chg_of (P := fun _ => False) HB.out) fun _ _ q => q
        have hrdr : RdrAt wr r (ByteArray.mk #[116]) 3 offset 1 := hc4r.blk H4.out.1 fun q => q
        have hc0r : Chg w wr (fun k => w.heap.size ≤ k) := H4.out.2.trans hc4r fun _ _ q => q.elim
        have hb0r : Below w.heap.size w wr := hc0r.below (Nat.le_refl _) fun _ q => q
        have hatr := HX.out.1.below hb0r (Nat.le_refl _)
        by_cases hc1 : corr = 1
        case neg =>
          have hgot := cn.got_wait r (ByteArray.mk #[116]) 3 offset 1 0 code corr hc1 A n c wr hrdr (by omega)
          unfold cn.resp at hgot
          have HG := Lib.hid (And.intro hgot (And.intro hrdr (And.intro hc0r (And.intro hb0r (And.intro hatr hYb))))); clear hgot hrdr hc0r hb0r hatr hYb hc4r
          have dc : (corr == 1) = false := by simp [hc1]
          go_upto_region 19 with (go_at_call 21; refine HG.out.1.mono ?_; rintro e w7 ⟨rfl, h1⟩; have H7 := Lib.hid h1; clear h1)
          have HOF := Lib.hid (cn.offset_any r (ByteArray.mk #[116]) 3 offset 1 w7 ((chg_of (P := fun _ => False) H7.out).blk HG.out.2.1 fun q => q))
          have hb7 : Below w.heap.size w w7 := HG.out.2.2.2.1.trans (H7.out.mono HG.out.2.2.2.1.size)
          have HB7 := Lib.hid hb7; clear hb7
          go_wp2_with (first
            | (go_at_call 9; refine (HAX.out w7 HB7.out).mono ?_; rintro a w9 ⟨rfl, hb⟩; have HB9 := Lib.hid hb; clear hb)
            | (go_at_call 22; refine HOF.out.mono ?_; rintro e w7' ⟨rfl, h3⟩; subst h3))
          go_ret
          exact ⟨rfl, HB9.out⟩
        subst hc1
        by_cases hc2 : code = 0
        case neg =>
          have hgot := cn.got_code r (ByteArray.mk #[116]) 3 offset 1 0 code hc2 A n c wr hrdr (by omega)
          unfold cn.resp at hgot
          have HG := Lib.hid (And.intro hgot (And.intro hrdr (And.intro hc0r (And.intro hb0r (And.intro hatr hYb))))); clear hgot hrdr hc0r hb0r hatr hYb hc4r
          have dc : (code == 0) = false := by simp [hc2]
          go_upto_region 19 with (go_at_call 21; refine HG.out.1.mono ?_; rintro e w7 ⟨rfl, h1⟩; have H7 := Lib.hid h1; clear h1)
          have HOF := Lib.hid (cn.offset_any r (ByteArray.mk #[116]) 3 offset 1 w7 ((chg_of (P := fun _ => False) H7.out).blk HG.out.2.1 fun q => q))
          have hb7 : Below w.heap.size w w7 := HG.out.2.2.2.1.trans (H7.out.mono HG.out.2.2.2.1.size)
          have HB7 := Lib.hid hb7; clear hb7
          go_wp2_with (first
            | (go_at_call 9; refine (HAX.out w7 HB7.out).mono ?_; rintro a w9 ⟨rfl, hb⟩; have HB9 := Lib.hid hb; clear hb)
            | (go_at_call 22; refine HOF.out.mono ?_; rintro e w7' ⟨rfl, h3⟩; subst h3))
          go_ret
          exact ⟨rfl, HB9.out⟩
        subst hc2
        cases Y with
        | true =>
          have hgot := cr.got_bad r (ByteArray.mk #[116]) offset A c L wr hrdr (by rw [HX.out.2.2.1]; exact hatr) HX.out.2.1 (by rw [HX.out.2.2.1]; exact hnc) hcm HO.out hYb.symm
          rw [HX.out.2.2.1] at hgot
          unfold cn.resp at hgot
          have HG := Lib.hid (And.intro hgot (And.intro hrdr (And.intro hc0r (And.intro hb0r hatr)))); clear hgot hrdr hc0r hb0r hatr hYb hc4r
          go_upto_region 19 with (go_at_call 21; refine HG.out.1.mono ?_; rintro e w7 ⟨rfl, h1, h2⟩; have H7 := Lib.hid (And.intro h1 h2); clear h1 h2)
          have HOF := Lib.hid (cn.offset_any r (ByteArray.mk #[116]) 3 offset 1 w7 H7.out.1)
          have hb7 : Below w.heap.size w w7 := (HG.out.2.2.1.trans H7.out.2 fun k _ e => by rw [show k = r from e, HR.out]; exact Nat.le_refl _).below (Nat.le_refl _) fun _ q => q
          have HB7 := Lib.hid hb7; clear hb7
          go_wp2_with (first
            | (go_at_call 9; refine (HAX.out w7 HB7.out).mono ?_; rintro a w9 ⟨rfl, hb⟩; have HB9 := Lib.hid hb; clear hb)
            | (go_at_call 22; refine HOF.out.mono ?_; rintro e w7' ⟨rfl, h3⟩; subst h3))
          go_ret
          exact ⟨rfl, HB9.out⟩
        | false =>
          have hgot := cr.got_fine r (ByteArray.mk #[116]) offset A c L wr hrdr (by rw [HX.out.2.2.1]; exact hatr) HX.out.2.1 (by rw [HX.out.2.2.1]; exact hnc) hcm HO.out hYb.symm
          rw [HX.out.2.2.1, ← HD.out.2.1, ← HD.out.2.2.2.2.1] at hgot
          unfold cn.resp at hgot
          have HG := Lib.hid (And.intro hgot (And.intro hrdr (And.intro hc0r (And.intro hb0r hatr)))); clear hgot hrdr hc0r hb0r hatr hYb hc4r
          go_upto_region 19 with (go_at_call 21; refine HG.out.1.mono ?_; rintro e w7 ⟨A5, c5, rfl, h1, h2, h3⟩; have H7 := Lib.hid (And.intro h1 (And.intro h2 h3)); clear h1 h2 h3)
          have hc07 : Chg w w7 (fun k => w.heap.size ≤ k) := HG.out.2.2.1.trans H7.out.2.2 fun k _ e => by rw [show k = r from e, HR.out]; exact Nat.le_refl _
          have hcb7 : Chg wc w7 (fun k => k = r) := (chg_of (P := fun k => k = r) HB.out).trans H7.out.2.2 fun _ _ q => q
          have hk7 := hcb7.blk H6.out.1 H6.out.2.2.2.1
          have hr5 : RowR w7 w4.heap.size (.slice Av nr cv) B.recs := H5.out.1.chg (((chg_of (P := fun k => k = r) (H6.out.2.2.2.2.below (B := w5.heap.size) (Nat.le_refl _) fun _ q => q.elim)).trans (chg_of (P := fun k => k = r) HB.out) fun _ _ q => q).trans H7.out.2.2 fun _ _ q => q) fun g h1 h2 h3 => by have h4 := H4.out.1.lt; omega
          obtain ⟨A8, c8, e8, hv7⟩ := hr5.recsV
          obtain ⟨rfl, rfl⟩ : Av = A8 ∧ cv = c8 := by injection e8 with e1 e2 e3; exact ⟨e1, e3⟩
          rw [← HD.out.2.2.2.2.1] at hv7
          clear e8 hr5
          have y5 := hk7.cell 5 (v := .slice Av nr cv) rfl
          have yl := hk7.lt
          have hdec := fun x hx => cr.bound HX.out.2.1 x hx
          rw [← HD.out.2.1] at hdec
          cases hxr : B.recs with
          | nil =>
            have hn0 : nr = 0 := by rw [HD.out.2.2.2.2.1, hxr]; rfl
            subst hn0
            have hsm : Calls Try.prog 23 #[.slice A5 0 c5, .slice Av 0 cv] w7 fun e w' => e = .returned (.bool true) ∧ Below w7.heap.size w7 w' := by
              have := ref.samerecs_any B.recs B.recs A5 c5 Av cv w7 (by rw [← HD.out.2.2.2.2.1]; exact H7.out.1) (by rw [← HD.out.2.2.2.2.1]; exact hv7)
              rw [cr.self, ← HD.out.2.2.2.2.1] at this
              exact this
            have HSM := Lib.hid hsm; clear hsm hv7 hdec
            rw [hxr] at H7
            unfold cn.behind at H7
            clear hxr
            have hoff := cn.offset_any r (ByteArray.mk #[116]) 3 (offset) 1
            have hask : ∀ wx, RdrAt wx r (ByteArray.mk #[116]) 3 (offset) 1 → Calls Try.prog 19 #[.pointer (some ⟨r, 0, none⟩), .int .i64 1] wx fun e w' => e = .returned (.agg #[.int .i64 5, .int .i64 2, .string (ByteArray.mk #[]), .string (ByteArray.mk #[116]), .int .i64 3, .int .i64 (offset), .int .i64 0, .int .i64 1, .string (ByteArray.mk #[]), .string (ByteArray.mk #[]), .int .i64 0, .slice none 0 0, .slice none 0 0]) ∧ Chg wx w' (fun k => k = r) := fun wx h => by
              refine (cn.ask_any r (ByteArray.mk #[116]) 3 (offset) 1 1 wx h (by omega)).mono ?_
              rintro e w' ⟨rfl, -, h2⟩
              exact ⟨rfl, h2⟩
            have hfield := cr.field1 (offset)
            have HE := Lib.hid (And.intro hoff (And.intro hask (And.intro H7.out.2.1 hc07))); clear hoff hask hc07 hcb7 hk7
            go_upto_region 28 with fail
            go_wp2_with (first
              | (go_at_call 9; refine (HAX.out w9 H9.out.2).mono ?_; rintro a w10 ⟨rfl, hb⟩; have HB10 := Lib.hid hb; clear hb)
              | (go_at_call 19; refine (HE.out.2.1 w8 H8.out.2.1).mono ?_; rintro e w9 ⟨rfl, h3⟩; have H9 := Lib.hid (And.intro h3 ((H8.out.2.2.trans h3 fun k _ e => by rw [show k = r from e, HR.out]; exact Nat.le_refl _).below (Nat.le_refl w.heap.size) fun _ q => q)); clear h3)
              | (go_at_call 22; refine (HE.out.1 w8 H8.out.2.1).mono ?_; rintro e w8' ⟨rfl, h3⟩; subst h3)
              | (go_at_call 23; refine HSM.out.mono ?_; rintro e w8 ⟨rfl, h3⟩; have H8 := Lib.hid (And.intro h3 (And.intro (show RdrAt w8 r (ByteArray.mk #[116]) 3 (offset) 1 from (chg_of (P := fun _ => False) h3).blk HE.out.2.2.1 fun q => q) (show Chg w w8 (fun k => w.heap.size ≤ k) from HE.out.2.2.2.trans (chg_of (P := fun _ => False) h3) fun _ _ q => q.elim))); clear h3))
            go_ret
            exact ⟨rfl, HB10.out⟩
          | cons f fs =>
            obtain ⟨k, hk⟩ : ∃ k, k = fs.length := ⟨_, rfl⟩
            have hn1 : nr = k + 1 := by rw [HD.out.2.2.2.2.1, hxr, hk]; rfl
            subst hn1
            have hsm : Calls Try.prog 23 #[.slice A5 (k + 1) c5, .slice Av (k + 1) cv] w7 fun e w' => e = .returned (.bool true) ∧ Below w7.heap.size w7 w' := by
              have := ref.samerecs_any B.recs B.recs A5 c5 Av cv w7 (by rw [← HD.out.2.2.2.2.1]; exact H7.out.1) (by rw [← HD.out.2.2.2.2.1]; exact hv7)
              rw [cr.self, ← HD.out.2.2.2.2.1] at this
              exact this
            have HSM := Lib.hid hsm; clear hsm
            obtain ⟨x, hx, hxb⟩ := cn.behind_last fs offset f
            have hxx : B.recs[k]? = some x := by rw [hxr, hk]; exact hx
            obtain ⟨bv, ov, cc, kv, vv, eA, -, -, hbv, f0, -⟩ := hv7.at' hxx
            obtain ⟨rfl, rfl⟩ : Av = some ⟨bv, ov, none⟩ ∧ cv = cc := by injection eA with e1 e2 e3; exact ⟨e1, e3⟩
            have hxo := hdec x (List.mem_of_getElem? hxx)
            rw [hxr, hxb] at H7
            clear hv7 hdec hxr hx hxb hxx eA hk
            have hoff := cn.offset_any r (ByteArray.mk #[116]) 3 (x.off + 1) 1
            have hask : ∀ wx, RdrAt wx r (ByteArray.mk #[116]) 3 (x.off + 1) 1 → Calls Try.prog 19 #[.pointer (some ⟨r, 0, none⟩), .int .i64 1] wx fun e w' => e = .returned (.agg #[.int .i64 5, .int .i64 2, .string (ByteArray.mk #[]), .string (ByteArray.mk #[116]), .int .i64 3, .int .i64 (x.off + 1), .int .i64 0, .int .i64 1, .string (ByteArray.mk #[]), .string (ByteArray.mk #[]), .int .i64 0, .slice none 0 0, .slice none 0 0]) ∧ Chg wx w' (fun k => k = r) := fun wx h => by
              refine (cn.ask_any r (ByteArray.mk #[116]) 3 (x.off + 1) 1 1 wx h (by omega)).mono ?_
              rintro e w' ⟨rfl, -, h2⟩
              exact ⟨rfl, h2⟩
            have hfield := cr.field1 (x.off + 1)
            have HE := Lib.hid (And.intro hoff (And.intro hask (And.intro H7.out.2.1 hc07))); clear hoff hask hc07 hcb7 hk7
            go_upto_region 28 with fail
            go_wp2_with (first
              | (go_at_call 9; refine (HAX.out w9 H9.out.2).mono ?_; rintro a w10 ⟨rfl, hb⟩; have HB10 := Lib.hid hb; clear hb)
              | (go_at_call 19; refine (HE.out.2.1 w8 H8.out.2.1).mono ?_; rintro e w9 ⟨rfl, h3⟩; have H9 := Lib.hid (And.intro h3 ((H8.out.2.2.trans h3 fun k _ e => by rw [show k = r from e, HR.out]; exact Nat.le_refl _).below (Nat.le_refl w.heap.size) fun _ q => q)); clear h3)
              | (go_at_call 22; refine (HE.out.1 w8 H8.out.2.1).mono ?_; rintro e w8' ⟨rfl, h3⟩; subst h3)
              | (go_at_call 23; refine HSM.out.mono ?_; rintro e w8 ⟨rfl, h3⟩; have H8 := Lib.hid (And.intro h3 (And.intro (show RdrAt w8 r (ByteArray.mk #[116]) 3 (x.off + 1) 1 from (chg_of (P := fun _ => False) h3).blk HE.out.2.2.1 fun q => q) (show Chg w w8 (fun k => w.heap.size ≤ k) from HE.out.2.2.2.trans (chg_of (P := fun _ => False) h3) fun _ _ q => q.elim))); clear h3))
            go_ret
            exact ⟨rfl, HB10.out⟩
end Go.Proofs.Ytahncanmfjmfnaa
namespace Go.Proofs.Ytahncanmfjmfnaa.lawClientReads
open Go.ChangeShapes Go.WideShapes Go.ChangeAt Go.RowKit

set_option maxRecDepth 100000 in
set_option linter.unusedVariables false in
theorem lifted (os : Os) (started : os.Started) (H : Type) (enc : TypeId × Value → H) :
    ReturnsInHanded {} Try.checked os 4 .any (Rows.clientReadsSpec.pre6 enc Try.prog Try.f4 Rows.clientReadsRow.domain false) (Rows.clientReadsSpec.post enc Try.prog Try.f4 false true false false) := by
  refine law_lifted os started 4 Try.f4 _ _ (by kernel_rfl) Try.func4
    (ChangeSpec.witness6 (enc := enc) (C := Try.checked) false ⟨#[], #[.int .i64 0, .int .i64 0, .int .i64 0, .slice none 0 0, .int .i64 0], []⟩ 8 (by kernel_rfl) (by kernel_rfl) (by kernel_rfl) (by kernel_rfl)) rfl rfl (by kernel_rfl) ?_ ?_
  · intro ds hds
    rw [Try.params4] at hds
    match ds, hds with
    | [d0, d1, d2, d3, d4], _ => rfl
  · intro W base args ds p hval hA hlt hsz
    rw [Try.params4] at hA hval hsz
    obtain ⟨v0, vs0, d0, ds0, p0, q0, hargs, rfl, rfl, h0, r0⟩ := trodAll_cons hA
    obtain ⟨v1, vs1, d1, ds1, p1, q1, rfl, rfl, rfl, h1, r1⟩ := trodAll_cons r0
    obtain ⟨v2, vs2, d2, ds2, p2, q2, rfl, rfl, rfl, h2, r2⟩ := trodAll_cons r1
    obtain ⟨v3, vs3, d3, ds3, p3, q3, rfl, rfl, rfl, h3, r3⟩ := trodAll_cons r2
    obtain ⟨v4, vs4, d4, ds4, p4, q4, rfl, rfl, rfl, h4, r4⟩ := trodAll_cons r3
    obtain ⟨rfl, rfl, rfl⟩ := trodAll_nil r4
    obtain rfl : args = #[v0, v1, v2, v3, v4] := by cases args; simp_all
    obtain ⟨a0, rfl, rfl, rfl, w0⟩ := open_int Try.underlying3 (hval 0 3 v0 rfl rfl) h0
    obtain ⟨a1, rfl, rfl, rfl, w1⟩ := open_int Try.underlying3 (hval 1 3 v1 rfl rfl) h1
    obtain ⟨a2, rfl, rfl, rfl, w2⟩ := open_int Try.underlying3 (hval 2 3 v2 rfl rfl) h2
    obtain ⟨A3, n3, c3, z3, rfl, m3, at3, w3⟩ := open_nums (k := .u8) Try.underlying33 Try.underlying5 (by kernel_rfl) (hval 3 33 v3 rfl rfl) h3 (fun x hx => hlt x (by simp [hx]))
    obtain ⟨a4, rfl, rfl, rfl, w4⟩ := open_int Try.underlying3 (hval 4 3 v4 rfl rfl) h4
    exact law24.reads a0 a1 a2 A3 n3 c3 z3 a4 W m3 at3 w3 

theorem over : Rows.clientReadsRow.holds Try.pinned (OpenSpec.ofChange Rows.clientReadsSpec) :=
  OpenClaim.holds_of_wide 4 Try.f4 rfl rfl rfl rfl rfl rfl rfl ⟨rfl, rfl, rfl, rfl, rfl⟩ rfl rfl rfl rfl rfl (by kernel_rfl) Try.func4 (by kernel_rfl)
    (of_decide_eq_true (by kernel_rfl)) (by unfold Func.isWrapper; first | (rw [if_pos (by decide +kernel)]; kernel_rfl) | (rw [if_neg (by decide +kernel)]; exact ⟨rfl, rfl⟩))
    (fun os started H enc _ => lifted os started H enc)

theorem proved : Rows.ClientReadsSaid :=
  over
#print axioms proved
end Go.Proofs.Ytahncanmfjmfnaa.lawClientReads

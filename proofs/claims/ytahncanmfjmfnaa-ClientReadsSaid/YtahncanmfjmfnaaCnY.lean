/- client: a reader takes an answer; where it then stands -/
import Derived.Test.YtahncanmfjmfnaaCnX
namespace Go.Proofs.Ytahncanmfjmfnaa
section
open Go.RowKit Go.Maps
set_option maxRecDepth 100000

/-- Behind these records, from an offset on; none, if one stands ahead of it. -/
def cn.next : Int → List Rec → Option Int
  | nx, [] => some nx
  | nx, r :: rs => if r.off < nx then none else cn.next (r.off + 1) rs
set_option maxRecDepth 20000 in
set_option maxHeartbeats 2000000 in
theorem cn.decode_any (A : Option Addr) (c : Nat) (L : List Nat) (w : World) (hat : At w A L.length (byteAt L)) (hb : ∀ x ∈ L, x < 256) (hn : L.length ≤ c) (hc : c ≤ maxLen) :
    Calls Try.prog 35 #[.slice A L.length c] w fun e w' => ((dec.decode L = none ∧ e = .returned (.tuple #[.agg #[.int .i64 0, .int .i64 0, .int .i64 0, .int .i64 0, .int .i64 0, .slice none 0 0], .int .i64 2])) ∨
      (∃ b A' c', dec.decode L = some b ∧ RowR w' w.heap.size (.slice A' b.recs.length c') b.recs ∧ e = .returned (.tuple #[b.hval A' b.recs.length c', .int .i64 0]))) ∧ Below w.heap.size w w' := by
  have hf := fun wx (h : Below w.heap.size w wx) => bat.first_any A c L wx (hat.below h (Nat.le_refl _)) hb hn hc
  have hdn : dec.first L = none → dec.decode L = none := fun h => by unfold dec.decode; rw [h]
  have hds : ∀ b u, dec.first L = some (b, u) → dec.decode L = if u = L.length then some b else none := fun b u h => by unfold dec.decode; rw [h]
  have HDN := Lib.hid hdn; clear hdn
  have HDS := Lib.hid hds; clear hds
  have HF := Lib.hid hf; clear hf hat hb
  unfold maxLen at hc
  generalize L.length = n at *
  go_enter Try.func35, Try.ntmps35
  go_wp2_with fail
  obtain ⟨w1, hw1⟩ : ∃ w1, w1 = w.alloc (.cells #[.int .i64 0, .int .i64 0, .int .i64 0, .int .i64 0, .int .i64 0, .slice none 0 0] 42) := ⟨_, rfl⟩
  try rw [← hw1]
  have hbk : Blk w1 w.heap.size 42 #[.int .i64 0, .int .i64 0, .int .i64 0, .int .i64 0, .int .i64 0, .slice none 0 0] := by rw [hw1]; exact Blk.new _ _ _
  have hb1 : Below w.heap.size w w1 := by rw [hw1]; exact (Below.refl _ w).alloc (Nat.le_refl _) _
  clear hw1
  have hlt1 : w.heap.size < w1.heap.size := hbk.lt
  refine (HF.out w1 hb1).mono ?_
  rintro e w5 ⟨hres, hb2⟩
  have hk5 := (chg_of (P := fun _ => False) hb2).blk hbk id
  have HB5 := Lib.hid (hb1.trans (hb2.mono hb1.size)); clear hb1 hb2 hbk
  have hlt := hk5.lt
  have HK5 := Lib.hid hk5; clear hk5
  have hk6 : ∀ cs, Blk (w5.alloc (.cells cs 42)) w.heap.size 42 #[.int .i64 0, .int .i64 0, .int .i64 0, .int .i64 0, .int .i64 0, .slice none 0 0] := fun cs => (Chg.alloc w5 (.cells cs 42) (fun _ => False)).blk HK5.out id
  have HK6 := Lib.hid hk6; clear hk6
  rcases hres with ⟨hno, rfl⟩ | ⟨b, u, A', c', hyes, hrv, rfl⟩
  · have HNO := Lib.hid (HDN.out hno); clear hno
    go_wp2_with (show Go.wpList _ _ _ (⟨_, .store _ (.tmp 2) (.tmp 21), _, _, _, _⟩ :: _) _ _; go_loud (refine wpList_store_row rfl 42 (.tmp 2) (.tmp 21) rfl w.heap.size #[.int .i64 0, .int .i64 0, .int .i64 0, .int .i64 0, .int .i64 0, .slice none 0 0] rfl rfl _ _ (HK6.out _) bat.info6 rfl (by simp [Value.oneCell']) ?_))
    have hk7 := (HK6.out #[.int .i64 0, .int .i64 0, .int .i64 0, .int .i64 0, .int .i64 0, .slice none 0 0]).row #[.int .i64 0, .int .i64 0, .int .i64 0, .int .i64 0, .int .i64 0, .slice none 0 0]
    have hb6 := HB5.out.alloc HB5.out.size (.cells #[.int .i64 0, .int .i64 0, .int .i64 0, .int .i64 0, .int .i64 0, .slice none 0 0] 42)
    refine bodyPost_ret (res_cell2 rfl _ _ _ _ _ rfl hk7 Try.underlying42 rfl bat.info6) rfl ?_
    exact ⟨.inl ⟨HNO.out, rfl⟩, hb6.trans ((Chg.setRow _ _ _).below hb6.size fun k hk => by have hk : k = w.heap.size := hk; omega)⟩
  · have hd := HDS.out b u hyes
    obtain ⟨nv, hnv⟩ : ∃ nv, nv = b.recs.length := ⟨_, rfl⟩
    have hrv2 := hrv
    unfold Bat.hval
    rw [← hnv] at hrv2 ⊢
    have HNV := Lib.hid hnv; clear hnv hyes hrv
    have HRV := Lib.hid hrv2; clear hrv2
    have hb6 := HB5.out.alloc HB5.out.size (.cells #[.int .i64 b.base, .int .i64 b.last, .int .i64 b.prod, .int .i64 b.epoch, .int .i64 b.seq, .slice A' nv c'] 42)
    have HB6 := Lib.hid hb6; clear hb6
    by_cases hu : u = n
    · subst hu
      rw [if_pos rfl] at hd
      have HD := Lib.hid hd; clear hd
      go_wp2_with (show Go.wpList _ _ _ (⟨_, .store _ (.tmp 2) (.tmp 22), _, _, _, _⟩ :: _) _ _; go_loud (refine wpList_store_row rfl 42 (.tmp 2) (.tmp 22) rfl w.heap.size #[.int .i64 b.base, .int .i64 b.last, .int .i64 b.prod, .int .i64 b.epoch, .int .i64 b.seq, .slice A' nv c'] rfl rfl _ _ (HK6.out _) bat.info6 rfl (by simp [Value.oneCell']) ?_))
      have hk7 := (HK6.out #[.int .i64 b.base, .int .i64 b.last, .int .i64 b.prod, .int .i64 b.epoch, .int .i64 b.seq, .slice A' nv c']).row #[.int .i64 b.base, .int .i64 b.last, .int .i64 b.prod, .int .i64 b.epoch, .int .i64 b.seq, .slice A' nv c']
      refine bodyPost_ret (res_cell2 rfl _ _ _ _ _ rfl hk7 Try.underlying42 rfl bat.info6) rfl ?_
      refine ⟨.inr ⟨b, A', c', HD.out, ?_, ?_⟩, HB6.out.trans ((Chg.setRow _ _ _).below HB6.out.size fun k hk => by have hk : k = w.heap.size := hk; omega)⟩
      · rw [← HNV.out]
        refine (HRV.out.chg ((Chg.alloc w5 (.cells #[.int .i64 b.base, .int .i64 b.last, .int .i64 b.prod, .int .i64 b.epoch, .int .i64 b.seq, .slice A' nv c'] 42) (fun k => k = w.heap.size)).trans (Chg.setRow _ w.heap.size _) (fun _ _ h => h)) (fun g h1 _ h3 => by have h3 : g = w.heap.size := h3; omega)).up (Nat.le_of_lt hlt1)
      · unfold Bat.hval
        rw [← HNV.out]
        rfl
    · have hd2 : ((u : Int) != (n : Int)) = true := by simp; omega
      rw [if_neg hu] at hd
      have HD := Lib.hid hd; clear hd hu
      go_wp2_with (show Go.wpList _ _ _ (⟨_, .store _ (.tmp 2) (.tmp 21), _, _, _, _⟩ :: _) _ _; go_loud (refine wpList_store_row rfl 42 (.tmp 2) (.tmp 21) rfl w.heap.size #[.int .i64 0, .int .i64 0, .int .i64 0, .int .i64 0, .int .i64 0, .slice none 0 0] rfl rfl _ _ (HK6.out _) bat.info6 rfl (by simp [Value.oneCell']) ?_))
      have hk7 := (HK6.out #[.int .i64 b.base, .int .i64 b.last, .int .i64 b.prod, .int .i64 b.epoch, .int .i64 b.seq, .slice A' nv c']).row #[.int .i64 0, .int .i64 0, .int .i64 0, .int .i64 0, .int .i64 0, .slice none 0 0]
      refine bodyPost_ret (res_cell2 rfl _ _ _ _ _ rfl hk7 Try.underlying42 rfl bat.info6) rfl ?_
      exact ⟨.inl ⟨HD.out, rfl⟩, HB6.out.trans ((Chg.setRow _ _ _).below HB6.out.size fun k hk => by have hk : k = w.heap.size := hk; omega)⟩

/-- What a reader answers, and is then. -/
def cn.Got (p : Nat) (topic : ByteArray) (part corr : Int) (r : Option (Bat × Int)) (offset : Int) (e : Ending) (w' : World) : Prop :=
  match r with
  | none => e = .returned (.tuple #[.slice none 0 0, .int .i64 2]) ∧ RdrAt w' p topic part offset corr
  | some (b, nx) => ∃ A2 c2, e = .returned (.tuple #[.slice A2 b.recs.length c2, .int .i64 0]) ∧ RecsV w' (.slice A2 b.recs.length c2) b.recs ∧ RdrAt w' p topic part nx corr
set_option maxHeartbeats 8000000 in
theorem cn.got_any (p : Nat) (topic : ByteArray) (part offset corr off : Int) (A : Option Addr) (c : Nat) (L : List Nat) (w : World) (h : RdrAt w p topic part offset corr) (hcorr : corr ≠ 0) (hat : At w A L.length (byteAt L)) (hb : ∀ x ∈ L, x < 256) (hn : L.length ≤ c) (hc : c ≤ maxLen) (hl : 0 < L.length)
    (hoff : ∀ b, dec.decode L = some b → ∀ r ∈ b.recs, 0 ≤ r.off ∧ r.off ≤ 4611686018427387904) (ho : 0 ≤ offset ∧ offset ≤ 9223372036854775807) (h100 : ∀ b, dec.decode L = some b → b.recs.length ≤ 100) :
    Calls Try.prog 21 #[.pointer (some ⟨p, 0, none⟩), .agg (cn.resp corr 0 off (.slice A L.length c))] w fun e w' =>
cn.Got p topic part corr ((dec.decode L).bind fun b => (cn.next offset b.recs).map fun nx => (b, nx)) offset e w' ∧ Chg w w' (fun k => k = p) := by
  obtain ⟨R, hR⟩ : ∃ R, R = (dec.decode L).bind fun b => (cn.next offset b.recs).map fun nx => (b, nx) := ⟨_, rfl⟩
  rw [← hR]
  obtain ⟨w1, hw1⟩ : ∃ w1, w1 = w.alloc (.cells (cn.resp corr 0 off (.slice A L.length c)) 53) := ⟨_, rfl⟩
  obtain ⟨g, hg⟩ : ∃ g, g = w.heap.size := ⟨_, rfl⟩
  obtain ⟨m, hm⟩ : ∃ m, m = L.length := ⟨_, rfl⟩
  have hc1 : Chg w w1 (fun _ => False) := by rw [hw1]; exact Chg.alloc _ _ _
  have hb1 : Below w.heap.size w w1 := by rw [hw1]; exact (Below.refl _ _).alloc (Nat.le_refl _) _
  have hr1 : Blk w1 g 53 (cn.resp corr 0 off (.slice A L.length c)) := by rw [hw1, hg]; exact Blk.new _ _ _
  have hp1 : Blk w1 p 93 #[.string topic, .int .i64 part, .int .i64 offset, .int .i64 corr] := hc1.blk h fun q => q
  have hdec := fun wx (hx : Below w.heap.size w wx) => cn.decode_any A c L wx (hat.below hx (Nat.le_refl _)) hb hn hc
  have hpl := h.lt
  rw [← hm] at hr1 hw1 hdec hl ⊢
  have d0 : ¬ corr = 0 := hcorr
  have d1 : (corr == 0) = false := by simp [hcorr]
  have hml : ¬ (m : Int) = 0 := by omega
  have k0 := hr1.cell 0 (v := .int .i64 corr) rfl
  have k1 := hr1.cell 1 (v := .int .i64 0) rfl
  have k9 := hr1.cell 9 (v := .slice A m c) rfl
  have kl := hr1.lt
  have c3 := hp1.cell 3 rfl
  have l3 := hp1.lt
  unfold cn.resp at hw1 ⊢
  have H1 := Lib.hid (And.intro hc1 (And.intro hb1 (And.intro hr1 (And.intro hp1 (And.intro hdec (And.intro hw1 (And.intro hg (And.intro hm (And.intro hoff h100))))))))); clear hc1 hb1 hr1 hp1 hdec hw1 hg hm hoff h100 h hat hb hn hc hcorr
  go_enter Try.func21, Try.ntmps21
  go_upto_region 1 with fail
  rw [← H1.out.2.2.2.2.2.1, ← H1.out.2.2.2.2.2.2.1]
  go_upto_region 3 with fail
  go_quiet (fail)
  clear k0 k1 k9 kl c3 l3
  obtain ⟨w2, hw2⟩ : ∃ w2, w2 = w1.drewN nq := ⟨_, rfl⟩
  rw [← hw2]
  have hb2 : Below w.heap.size w w2 := by rw [hw2]; exact bdrew H1.out.2.1 nq
  have hc2 : Chg w1 w2 (fun _ => False) := by rw [hw2]; exact chg_of (bdrew (Below.refl _ _) nq)
  have hr2 := hc2.blk H1.out.2.2.1 fun q => q
  have hp2 := hc2.blk H1.out.2.2.2.1 fun q => q
  have hd2 := H1.out.2.2.2.2.1 w2 hb2
  have k1 := hr2.cell 1 (v := .int .i64 0) rfl
  have k9 := hr2.cell 9 (v := .slice A m c) rfl
  have kl := hr2.lt
  have H2 := Lib.hid (And.intro hb2 (And.intro hp2 hd2)); clear hb2 hc2 hr2 hp2 hd2 hw2
  have HR := Lib.hid hR; clear hR
  cases hd : dec.decode L with
  | none =>
    have hRn : R = none := by rw [HR.out, hd]; rfl
    subst hRn
    have hdz : Calls Try.prog 35 #[.slice A m c] w2 fun e w' => e = .returned (.tuple #[.agg #[.int .i64 0, .int .i64 0, .int .i64 0, .int .i64 0, .int .i64 0, .slice none 0 0], .int .i64 2]) ∧ Below w2.heap.size w2 w' := by
      refine H2.out.2.2.mono ?_
      rintro e w' ⟨⟨-, rfl⟩ | ⟨b, A2, c2, h1, -⟩, h2⟩
      · exact ⟨rfl, h2⟩
      · rw [hd] at h1; cases h1
    have HDZ := Lib.hid hdz; clear hdz
    go_upto_region 11 with (go_at_call 35; refine HDZ.out.mono ?_; rintro e w3 ⟨rfl, h1⟩; have H3 := Lib.hid h1; clear h1)
    clear k1 k9 kl
    obtain ⟨w4, hw4⟩ : ∃ w4, w4 = w3.alloc (.cells #[.int .i64 0, .int .i64 0, .int .i64 0, .int .i64 0, .int .i64 0, .slice none 0 0] 42) := ⟨_, rfl⟩
    have hc24 : Chg w2 w4 (fun _ => False) := by rw [hw4]; exact (chg_of (P := fun _ => False) H3.out).trans (Chg.alloc _ _ _) fun _ _ q => q
    rw [← hw4]
    clear hw4
    have hfin : RdrAt w4 p topic part offset corr ∧ Chg w w4 (fun k => k = p) := ⟨hc24.blk H2.out.2.1 fun q => q, ((chg_of (P := fun _ => False) H2.out.1).trans hc24 fun _ _ q => q).mono fun _ _ q => q.elim⟩
    have HF := Lib.hid hfin; clear hfin hc24
    go_wp2_with fail
    go_ret2
    exact ⟨⟨rfl, HF.out.1⟩, HF.out.2⟩
  | some b =>
    have hdz : Calls Try.prog 35 #[.slice A m c] w2 fun e w' => ∃ A2 c2, e = .returned (.tuple #[b.hval A2 b.recs.length c2, .int .i64 0]) ∧ RowR w' w2.heap.size (.slice A2 b.recs.length c2) b.recs ∧ Below w2.heap.size w2 w' := by
      refine H2.out.2.2.mono ?_
      rintro e w' ⟨⟨h1, -⟩ | ⟨b', A2, c2, h1, h3, rfl⟩, h2⟩
      · rw [hd] at h1; cases h1
      · obtain rfl : b = b' := by rw [hd] at h1; exact Option.some.inj h1
        exact ⟨A2, c2, rfl, h3, h2⟩
    obtain ⟨rs, hrs⟩ : ∃ rs, rs = b.recs := ⟨_, rfl⟩
    obtain ⟨nr, hnr⟩ : ∃ nr, nr = rs.length := ⟨_, rfl⟩
    have ho2 := H1.out.2.2.2.2.2.2.2.2.1 b hd
    have hr100 := H1.out.2.2.2.2.2.2.2.2.2 b hd
    have hRb : R = (cn.next offset b.recs).map fun nx => (b, nx) := by rw [HR.out, hd]; rfl
    rw [← hrs] at hdz ho2 hr100 hRb
    rw [← hnr] at hdz hr100
    have HDZ := Lib.hid (And.intro hdz (And.intro ho2 (And.intro hRb (And.intro hrs hnr)))); clear hdz ho2 hRb hrs hnr hd
    clear HR
    go_upto_region 10 with (go_at_call 35; refine HDZ.out.1.mono ?_; rintro e w3 ⟨A3, c3, rfl, h1, h2⟩; unfold Bat.hval; have H3 := Lib.hid (And.intro h1 h2); clear h1 h2)
    clear k1 k9 kl
    obtain ⟨w4, hw4⟩ : ∃ w4, w4 = w3.alloc (.cells #[.int .i64 b.base, .int .i64 b.last, .int .i64 b.prod, .int .i64 b.epoch, .int .i64 b.seq, .slice A3 nr c3] 42) := ⟨_, rfl⟩
    obtain ⟨g4, hg4⟩ : ∃ g4, g4 = w3.heap.size := ⟨_, rfl⟩
    rw [← hw4, ← hg4]
    have hk4 : Blk w4 g4 42 #[.int .i64 b.base, .int .i64 b.last, .int .i64 b.prod, .int .i64 b.epoch, .int .i64 b.seq, .slice A3 nr c3] := by rw [hw4, hg4]; exact Blk.new _ _ _
    have hb24 : Below w2.heap.size w2 w4 := by rw [hw4]; exact H3.out.2.alloc H3.out.2.size _
    have hv4 : RowR w4 w2.heap.size (.slice A3 nr c3) rs := H3.out.1.below (by rw [hw4]; exact (Below.refl _ _).alloc (Nat.le_refl _) _)
    have hp4 := (chg_of (P := fun _ => False) hb24).blk H2.out.2.1 fun q => q
    have c2' := hp4.cell 2 rfl
    have l2' := hp4.lt
    have k5 := hk4.cell 5 rfl
    have kl := hk4.lt
    have hgp : p ≠ g4 := by have h1 := H2.out.2.1.lt; have h2 := H3.out.2.size; omega
    have H4 := Lib.hid (And.intro hk4 (And.intro hb24 (And.intro hv4 (And.intro hp4 hgp)))); clear hk4 hb24 hv4 hp4 hgp hw4 hg4
    go_upto_region 14 with fail
    clear c2' l2' k5 kl
    go_loopw [8, 55] (fun x i wx => ∃ (j : Nat) (nx : Int), j ≤ nr ∧ i = .int .i64 (j : Int) ∧ x = .int .i64 nx ∧ cn.next offset rs = cn.next nx (rs.drop j) ∧ (0 ≤ nx ∧ nx ≤ 9223372036854775807) ∧ Below w4.heap.size w4 wx) (fun _ i _ => nr - (intOf i).toNat)
    case atStart => exact ⟨0, offset, by omega, rfl, rfl, by rw [List.drop_zero], ho, Below.refl _ _⟩
    case round =>
      obtain ⟨j, nx, hj, rfl, rfl, hnx, hbd, hbw⟩ := hrel
      by_cases hlt : j < nr
      · have hlt' : (j : Int) < (nr : Int) := by omega
        have hnr := HDZ.out.2.2.2.2
        have hjr : j < rs.length := by omega
        obtain ⟨r, hr⟩ : ∃ r, rs[j]? = some r := ⟨_, List.getElem?_eq_getElem hjr⟩
        have hrm := HDZ.out.2.1 r (List.mem_of_getElem? hr)
        have hdrop : rs.drop j = r :: rs.drop (j + 1) := by
          rw [List.drop_eq_getElem_cons hjr]
          have := (List.getElem?_eq_some_iff.1 hr).2
          rw [this]
        rw [hdrop] at hnx
        have hstep : cn.next nx (r :: rs.drop (j + 1)) = if r.off < nx then none else cn.next (r.off + 1) (rs.drop (j + 1)) := rfl
        rw [hstep] at hnx
        have hv := H4.out.2.2.1
        rw [hnr] at hv
        obtain ⟨Az, cz, ez, hv⟩ := (hv.below hbw).recsV
        obtain ⟨rfl, rfl⟩ : A3 = Az ∧ c3 = cz := by injection ez with e1 e2 e3; exact ⟨e1, e3⟩
        obtain ⟨br, or, cc, kv, vv, eA, -, -, hbr, d0', d1', d2', d3', d4', d5', ⟨Ak, ck, rfl, hk⟩, ⟨Av, cv, rfl, hvv⟩, -⟩ := hv.at' hr
        obtain ⟨rfl, rfl⟩ : A3 = some ⟨br, or, none⟩ ∧ c3 = cc := by injection eA with e1 e2 e3; exact ⟨e1, e3⟩
        clear hv eA hk hvv ez
        obtain ⟨nk, hnk⟩ : ∃ nk, nk = r.key.length := ⟨_, rfl⟩
        obtain ⟨nv, hnv⟩ : ∃ nv, nv = r.val.length := ⟨_, rfl⟩
        rw [← hnk] at d3'
        rw [← hnv] at d5'
        have HN := Lib.hid (And.intro hnx hbw); clear hnx hbw hdrop hstep hnr hjr hr hnk hnv
        go_upto_region 16 with fail
        clear d0' d1' d2' d3' d4' d5' hbr
        obtain ⟨w6, hw6⟩ : ∃ w6, w6 = wr.alloc (.cells #[.int .i64 r.off, .int .i64 r.time, .bool r.hasKey, .slice Ak nk ck, .bool r.hasVal, .slice Av nv cv] 44) := ⟨_, rfl⟩
        have hk6 : Blk w6 wr.heap.size 44 #[.int .i64 r.off, .int .i64 r.time, .bool r.hasKey, .slice Ak nk ck, .bool r.hasVal, .slice Av nv cv] := by rw [hw6]; exact Blk.new _ _ _
        have hb6 : Below w4.heap.size w4 w6 := by rw [hw6]; exact HN.out.2.alloc HN.out.2.size _
        rw [← hw6]
        clear hw6
        have x0 := hk6.cell 0 rfl
        have xl := hk6.lt
        have HB6 := Lib.hid hb6; clear hb6 hk6
        by_cases hoo : r.off < nx
        · have hd : decide (r.off < nx) = true := decide_eq_true hoo
          have hRn : R = none := by rw [HDZ.out.2.2.1, HN.out.1, if_pos hoo]; rfl
          subst hRn
          have hcc := (chg_of (P := fun _ => False) H2.out.1).trans ((chg_of (P := fun _ => False) H4.out.2.1).trans (chg_of (P := fun _ => False) HB6.out) fun _ _ q => q) fun _ _ q => q
          have hp6 := (chg_of (P := fun _ => False) HB6.out).blk H4.out.2.2.2.1 fun q => q
          have HF := Lib.hid (And.intro hp6 (hcc.mono (Q := fun k => k = p) fun _ _ q => q.elim)); clear hp6 hcc
          go_wp2_with fail
          go_ret2
          exact ⟨⟨rfl, HF.out.1⟩, HF.out.2⟩
        · have hd : decide (r.off < nx) = false := decide_eq_false hoo
          have hnx' : cn.next offset rs = cn.next (r.off + 1) (rs.drop (j + 1)) := by rw [HN.out.1, if_neg hoo]
          have HNX := Lib.hid hnx'; clear hnx'
          go_wp2_with fail
          exact ⟨⟨j + 1, r.off + 1, by omega, by go_num, rfl, HNX.out, by omega, HB6.out⟩, by simp [intOf]; omega⟩
      · obtain rfl : j = nr := by omega
        have hRs : R = some (b, nx) := by
          rw [HDZ.out.2.2.1, hnx, HDZ.out.2.2.2.2, List.drop_length]
          rfl
        subst hRs
        have hpw := (chg_of (P := fun _ => False) hbw).blk H4.out.2.2.2.1 fun q => q
        have hgw := (chg_of (P := fun _ => False) hbw).blk H4.out.1 fun q => q
        have hvw := H4.out.2.2.1.below hbw
        have hcw : Chg w wr (fun _ => False) := (chg_of (P := fun _ => False) H2.out.1).trans ((chg_of (P := fun _ => False) H4.out.2.1).trans (chg_of (P := fun _ => False) hbw) fun _ _ q => q) fun _ _ q => q
        have c2 := hpw.cell 2 rfl
        have f2 := hpw.frozen 2
        have l2 := hpw.lt
        have HW := Lib.hid (And.intro hpw (And.intro hgw (And.intro hvw hcw))); clear hpw hgw hvw hcw hbw hnx hlt
        go_upto_region 21 with fail
        clear c2 f2 l2
        obtain ⟨w7, hw7⟩ : ∃ w7, w7 = wr.setCell ⟨p, 2, none⟩ (.int .i64 nx) := ⟨_, rfl⟩
        rw [← hw7]
        have hp7 : RdrAt w7 p topic part nx corr := by rw [hw7]; exact HW.out.1.set 2 _
        have hc7 : Chg wr w7 (fun k => k = p) := by rw [hw7]; exact Chg.setCell _ _ _ _
        have hg7 := hc7.blk HW.out.2.1 fun e => H4.out.2.2.2.2 e.symm
        have hv7 : RecsV w7 (.slice A3 j c3) rs := by
          have hpl2 := H2.out.2.1.lt
          obtain ⟨Az, cz, ez, hv⟩ := (HW.out.2.2.1.chg hc7 fun q hq _ e => by have e : q = p := e; omega).recsV
          obtain ⟨rfl, rfl⟩ : A3 = Az ∧ c3 = cz := by injection ez with e1 e2 e3; exact ⟨e1, e3⟩
          rw [← ez] at hv
          exact hv
        have k5 := hg7.cell 5 rfl
        have kl := hg7.lt
        have H7 := Lib.hid (And.intro hp7 (And.intro hv7 ((HW.out.2.2.2.mono fun _ _ q => q.elim).trans hc7 fun _ _ q => q))); clear hp7 hc7 hg7 hv7 hw7
        go_wp2_with fail
        go_ret2
        refine ⟨⟨A3, c3, ?_, ?_, H7.out.1⟩, H7.out.2.2⟩
        · rw [← HDZ.out.2.2.2.1, ← HDZ.out.2.2.2.2]
          rfl
        · rw [← HDZ.out.2.2.2.1, ← HDZ.out.2.2.2.2]
          exact H7.out.2.1
end
section
open Go.RowKit

/-- Behind the last of some records. -/
def cn.behind : Int → List Rec → Int
  | nx, [] => nx
  | _, r :: rs => cn.behind (r.off + 1) rs
theorem cn.chks_step {last ahead : Int} {r : Rec} {rs : List Rec} (h : bat.chks last ahead (r :: rs) = 0) : ahead < r.off ∧ bat.chks last r.off rs = 0 := by
  rw [bat.chks_cons] at h
  split at h
  · cases h
  · split at h
    · rename_i h1 h2; exact absurd h h2
    · rename_i h1 _; exact ⟨by omega, h⟩
theorem cn.next_rise : ∀ (rs : List Rec) (last ahead nx : Int), bat.chks last ahead rs = 0 → nx ≤ ahead + 1 → cn.next nx rs = some (cn.behind nx rs)
  | [], _, _, _, _, _ => rfl
  | r :: rs, last, ahead, nx, h, hn => by
    obtain ⟨h1, h2⟩ := cn.chks_step h
    unfold cn.next cn.behind
    rw [if_neg (by omega)]
    exact cn.next_rise rs last r.off (r.off + 1) h2 (by omega)
theorem cn.chks_of {x : Bat} (hc : x.check = 0) : bat.chks x.last (x.base - 1) x.recs = 0 := by
  unfold Bat.check at hc
  split at hc
  · cases hc
  · split at hc
    · cases hc
    · split at hc
      · rename_i h; exact absurd hc h
      · rename_i h; exact Decidable.not_not.1 h
theorem cn.next_bad {x : Bat} {r : Rec} {rs : List Rec} (hx : x.recs = r :: rs) (nx : Int) (h : r.off < nx) : cn.next nx x.recs = none := by
  rw [hx]
  unfold cn.next
  rw [if_pos h]
theorem cn.next_ok {x : Bat} (hc : x.check = 0) {r : Rec} {rs : List Rec} (hx : x.recs = r :: rs) (nx : Int) (h : ¬ r.off < nx) : cn.next nx x.recs = some (cn.behind (r.off + 1) rs) := by
  have h1 := cn.chks_of hc
  rw [hx] at h1 ⊢
  unfold cn.next
  rw [if_neg h]
  exact cn.next_rise rs x.last r.off (r.off + 1) (cn.chks_step h1).2 (Int.le_refl _)
theorem cn.behind_last : ∀ (rs : List Rec) (nx : Int) (r : Rec), ∃ z, (r :: rs)[rs.length]? = some z ∧ cn.behind nx (r :: rs) = z.off + 1
  | [], _, r => ⟨r, rfl, rfl⟩
  | s :: rs, _, r => by
    obtain ⟨z, h1, h2⟩ := cn.behind_last rs (r.off + 1) s
    exact ⟨z, by simpa using h1, h2⟩
end
section
open Go.RowKit Go.Maps
set_option maxRecDepth 100000

set_option maxHeartbeats 4000000 in
theorem cn.got_wait (p : Nat) (topic : ByteArray) (part offset corr off : Int) (code rc : Int) (hrc : rc ≠ corr) (A : Option Addr) (m c : Nat) (w : World) (h : RdrAt w p topic part offset corr) (hcorr : corr ≠ 0) :
    Calls Try.prog 21 #[.pointer (some ⟨p, 0, none⟩), .agg (cn.resp rc code off (.slice A m c))] w fun e w' => e = .returned (.tuple #[.slice none 0 0, .int .i64 14]) ∧ Below w.heap.size w w' := by
  obtain ⟨w1, hw1⟩ : ∃ w1, w1 = w.alloc (.cells (cn.resp rc code off (.slice A m c)) 53) := ⟨_, rfl⟩
  obtain ⟨g, hg⟩ : ∃ g, g = w.heap.size := ⟨_, rfl⟩
  have hb1 : Below w.heap.size w w1 := by rw [hw1]; exact (Below.refl _ _).alloc (Nat.le_refl _) _
  have hr1 : Blk w1 g 53 (cn.resp rc code off (.slice A m c)) := by rw [hw1, hg]; exact Blk.new _ _ _
  have hp1 : Blk w1 p 93 #[.string topic, .int .i64 part, .int .i64 offset, .int .i64 corr] := (chg_of (P := fun _ => False) hb1).blk h fun q => q
  have d1 : (corr == 0) = false := by simp [hcorr]
  have k0 := hr1.cell 0 (v := .int .i64 rc) rfl
  have kl := hr1.lt
  have c3 := hp1.cell 3 rfl
  have l3 := hp1.lt
  unfold cn.resp at hw1 ⊢
  have H1 := Lib.hid (And.intro hb1 (And.intro hr1 (And.intro hw1 hg))); clear hb1 hr1 hp1 hw1 hg h
  go_enter Try.func21, Try.ntmps21
  go_upto_region 1 with fail
  rw [← H1.out.2.2.1, ← H1.out.2.2.2]
  go_upto_region 3 with fail
  have d2 : (rc == corr) = false := by simp [hrc]
  go_quiet (fail)
  obtain ⟨w2, hw2⟩ : ∃ w2, w2 = w1.drewN nq := ⟨_, rfl⟩
  rw [← hw2]
  have hb2 : Below w.heap.size w w2 := by rw [hw2]; exact bdrew H1.out.1 nq
  have H2 := Lib.hid hb2; clear hb2 hw2 k0 kl c3 l3
  go_wp2_with fail
  go_ret2
  exact ⟨rfl, H2.out⟩
set_option maxHeartbeats 4000000 in
theorem cn.got_code (p : Nat) (topic : ByteArray) (part offset corr off : Int) (code : Int) (hcode : code ≠ 0) (A : Option Addr) (m c : Nat) (w : World) (h : RdrAt w p topic part offset corr) (hcorr : corr ≠ 0) :
    Calls Try.prog 21 #[.pointer (some ⟨p, 0, none⟩), .agg (cn.resp corr code off (.slice A m c))] w fun e w' => e = .returned (.tuple #[.slice none 0 0, .int .i64 code]) ∧ Below w.heap.size w w' := by
  obtain ⟨w1, hw1⟩ : ∃ w1, w1 = w.alloc (.cells (cn.resp corr code off (.slice A m c)) 53) := ⟨_, rfl⟩
  obtain ⟨g, hg⟩ : ∃ g, g = w.heap.size := ⟨_, rfl⟩
  have hb1 : Below w.heap.size w w1 := by rw [hw1]; exact (Below.refl _ _).alloc (Nat.le_refl _) _
  have hr1 : Blk w1 g 53 (cn.resp corr code off (.slice A m c)) := by rw [hw1, hg]; exact Blk.new _ _ _
  have hp1 : Blk w1 p 93 #[.string topic, .int .i64 part, .int .i64 offset, .int .i64 corr] := (chg_of (P := fun _ => False) hb1).blk h fun q => q
  have d1 : (corr == 0) = false := by simp [hcorr]
  have k0 := hr1.cell 0 (v := .int .i64 corr) rfl
  have kl := hr1.lt
  have c3 := hp1.cell 3 rfl
  have l3 := hp1.lt
  unfold cn.resp at hw1 ⊢
  have H1 := Lib.hid (And.intro hb1 (And.intro hr1 (And.intro hw1 hg))); clear hb1 hr1 hp1 hw1 hg h
  go_enter Try.func21, Try.ntmps21
  go_upto_region 1 with fail
  rw [← H1.out.2.2.1, ← H1.out.2.2.2]
  go_upto_region 3 with fail
  have d2 : (code == 0) = false := by simp [hcode]
  go_quiet (fail)
  obtain ⟨w2, hw2⟩ : ∃ w2, w2 = w1.drewN nq := ⟨_, rfl⟩
  rw [← hw2]
  have hb2 : Below w.heap.size w w2 := by rw [hw2]; exact bdrew H1.out.1 nq
  have hr2 := (chg_of (P := fun _ => False) (show Below w1.heap.size w1 w2 by rw [hw2]; exact bdrew (Below.refl _ _) nq)).blk H1.out.2.1 fun q => q
  have k1 := hr2.cell 1 (v := .int .i64 code) rfl
  have kl2 := hr2.lt
  have H2 := Lib.hid hb2; clear hb2 hr2 hw2 k0 kl c3 l3
  go_upto_region 6 with fail
  go_quiet (fail)
  have hb3 : Below w.heap.size w (w2.drewN nq) := bdrew H2.out nq
  have H3 := Lib.hid hb3; clear hb3
  go_wp2_with fail
  go_ret2
  exact ⟨rfl, H3.out⟩
set_option maxHeartbeats 4000000 in
theorem cn.got_empty (p : Nat) (topic : ByteArray) (part offset corr off : Int) (A : Option Addr) (c : Nat) (w : World) (h : RdrAt w p topic part offset corr) (hcorr : corr ≠ 0) :
    Calls Try.prog 21 #[.pointer (some ⟨p, 0, none⟩), .agg (cn.resp corr 0 off (.slice A 0 c))] w fun e w' => e = .returned (.tuple #[.slice none 0 0, .int .i64 0]) ∧ Below w.heap.size w w' := by
  obtain ⟨w1, hw1⟩ : ∃ w1, w1 = w.alloc (.cells (cn.resp corr 0 off (.slice A 0 c)) 53) := ⟨_, rfl⟩
  obtain ⟨g, hg⟩ : ∃ g, g = w.heap.size := ⟨_, rfl⟩
  have hb1 : Below w.heap.size w w1 := by rw [hw1]; exact (Below.refl _ _).alloc (Nat.le_refl _) _
  have hr1 : Blk w1 g 53 (cn.resp corr 0 off (.slice A 0 c)) := by rw [hw1, hg]; exact Blk.new _ _ _
  have hp1 : Blk w1 p 93 #[.string topic, .int .i64 part, .int .i64 offset, .int .i64 corr] := (chg_of (P := fun _ => False) hb1).blk h fun q => q
  have d1 : (corr == 0) = false := by simp [hcorr]
  have k0 := hr1.cell 0 (v := .int .i64 corr) rfl
  have kl := hr1.lt
  have c3 := hp1.cell 3 rfl
  have l3 := hp1.lt
  unfold cn.resp at hw1 ⊢
  have H1 := Lib.hid (And.intro hb1 (And.intro hr1 (And.intro hw1 hg))); clear hb1 hr1 hp1 hw1 hg h
  go_enter Try.func21, Try.ntmps21
  go_upto_region 1 with fail
  rw [← H1.out.2.2.1, ← H1.out.2.2.2]
  go_upto_region 3 with fail
  go_quiet (fail)
  obtain ⟨w2, hw2⟩ : ∃ w2, w2 = w1.drewN nq := ⟨_, rfl⟩
  rw [← hw2]
  have hb2 : Below w.heap.size w w2 := by rw [hw2]; exact bdrew H1.out.1 nq
  have hr2 := (chg_of (P := fun _ => False) (show Below w1.heap.size w1 w2 by rw [hw2]; exact bdrew (Below.refl _ _) nq)).blk H1.out.2.1 fun q => q
  have k1 := hr2.cell 1 (v := .int .i64 0) rfl
  have k9 := hr2.cell 9 (v := .slice A 0 c) rfl
  have kl2 := hr2.lt
  have H2 := Lib.hid hb2; clear hb2 hr2 hw2 k0 kl c3 l3
  go_wp2_with fail
  go_ret2
  exact ⟨rfl, H2.out⟩
end
end Go.Proofs.Ytahncanmfjmfnaa

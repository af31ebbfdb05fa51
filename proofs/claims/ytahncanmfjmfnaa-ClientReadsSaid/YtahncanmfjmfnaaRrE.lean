/- The reference of chapter 5: the walk of First. -/
import Derived.Test.YtahncanmfjmfnaaRrC
import Derived.Test.YtahncanmfjmfnaaRrD
import Derived.Test.YtahncanmfjmfnaaBwW
import Derived.Test.YtahncanmfjmfnaaPlanE
namespace Go.Proofs.Ytahncanmfjmfnaa
open Go.RowKit

/-- What First answers. -/
def rr.FirstPost (L : List Nat) (w : World) (e : Ending) (w' : World) : Prop :=
  ((dec.first L = none ∧ e = .returned (.tuple #[.agg #[.int .i64 0, .int .i64 0, .int .i64 0, .int .i64 0, .int .i64 0, .slice none 0 0], .int .i64 0])) ∨
    (∃ b u A' c', dec.first L = some (b, u) ∧ 50 ≤ u ∧ u ≤ L.length ∧ RowR w' w.heap.size (.slice A' b.recs.length c') b.recs ∧ e = .returned (.tuple #[b.hval A' b.recs.length c', .int .i64 (u : Nat)]))) ∧ Below w.heap.size w w'
theorem rr.piece_in (L : List Nat) (most : Int) : (∀ x ∈ (rd.piece L 0 most).1, x ∈ L) ∧ (∀ x ∈ (rd.piece L 0 most).2.1, x ∈ L) ∧ (rd.piece L 0 most).1.length ≤ L.length ∧ (rd.piece L 0 most).2.1.length ≤ L.length := by
  have hn : (∀ x ∈ (rd.num L 0).2.1, x ∈ L) ∧ (rd.num L 0).2.1.length ≤ L.length := by
    refine ⟨?_, rd.num_le L 0⟩
    unfold rd.num
    rw [if_neg (by decide)]
    cases num.getL L with
    | none => exact (fun x h => by cases h)
    | some p => exact fun x h => List.mem_of_mem_drop h
  unfold rd.piece rd.cut
  split
  · exact ⟨(fun x h => by cases h), hn.1, Nat.zero_le _, hn.2⟩
  · split
    · exact ⟨(fun x h => by cases h), (fun x h => by cases h), Nat.zero_le _, Nat.zero_le _⟩
    · split
      · exact ⟨(fun x h => by cases h), (fun x h => by cases h), Nat.zero_le _, Nat.zero_le _⟩
      · refine ⟨fun x h => hn.1 x (List.mem_of_mem_take h), fun x h => hn.1 x (List.mem_of_mem_drop h), ?_, ?_⟩
        · show (List.take _ _).length ≤ _
          rw [List.length_take]; omega
        · show (List.drop _ _).length ≤ _
          rw [List.length_drop]; omega
theorem rr.rec_ok {first base : Int} {L : List Nat} {r : Rec} (h : rr.rec first base L = some r) : i64ok r.off ∧ i64ok r.time := by
  unfold rr.rec at h
  split at h
  · cases h
  · split at h
    · cases h
    · split at h
      · cases h
      · split at h
        · cases h
        · split at h
          · cases h
          · split at h
            · cases h
            · obtain rfl := Option.some.inj h
              exact ⟨wrap_ok _, wrap_ok _⟩
theorem none_of {α : Type} {o : Option α} (h : ∀ x, o = some x → False) : o = none := by
  cases o with
  | none => rfl
  | some x => exact (h x rfl).elim
theorem rr.getfx {b off n : Nat} {L : List Nat} {wx : World} (hl : L.length = n) (hat : At wx (some ⟨b, off, none⟩) n (byteAt L)) (hb : ∀ x ∈ L, x < 256) (a s cc : Nat) (h2 : a + s ≤ n) (h3 : s ≤ 8) :
    Calls Try.prog 54 #[.slice (some ⟨b, off + a, none⟩) s cc] wx fun e w' => e = .returned (.int .i64 (rr.fx L a s)) ∧ w' = wx := by
  have hpc := (Piece.drop (some ⟨b, off, none⟩) L a).trans (Piece.take (A := (some (⟨b, off, none⟩ : Addr)).map fun x => x.add a) (L := L.drop a) (k := s) (by rw [List.length_drop, hl]; omega))
  have hls : ((L.drop a).take s).length = s := by rw [List.length_take, List.length_drop, hl]; omega
  have h := hpc wx (by rw [hl]; exact hat)
  rw [hls] at h
  have e : ((some (⟨b, off, none⟩ : Addr)).map fun x => x.add a) = some ⟨b, off + a, none⟩ := by rw [Option.map_some, add_none]
  rw [e] at h
  exact (wire.refgetfixed_all _ s cc _ wx hls h (fun x hx => hb x (List.mem_of_mem_drop (List.mem_of_mem_take hx))) h3).mono fun e w' h => ⟨h.1, h.2.symm⟩

set_option maxRecDepth 20000 in
set_option maxHeartbeats 4000000 in
theorem ref.first_any (A : Option Addr) (c n : Nat) (L : List Nat) (w : World) (hln : L.length = n) (hat : At w A n (byteAt L)) (hb : ∀ x ∈ L, x < 256) (hn : n ≤ c) (hc : c ≤ maxLen) (hl : n ≤ 1000000) :
    Calls Try.prog 34 #[.slice A n c] w (rr.FirstPost L w) := by
  have hno : ∀ wx, Below w.heap.size w wx → dec.first L = none → rr.FirstPost L w (.returned (.tuple #[.agg #[.int .i64 0, .int .i64 0, .int .i64 0, .int .i64 0, .int .i64 0, .slice none 0 0], .int .i64 0])) wx := fun wx h1 h2 =>
    ⟨.inl ⟨h2, rfl⟩, h1⟩
  have HNO := Lib.hid hno; clear hno
  have hof : ∀ b u, dec.first L = some (b, u) → b.check = 0 ∧ u ≤ n ∧ 50 ≤ u ∧ u ≤ 65536 ∧ rr.fx L 8 4 = (u : Int) - 12 ∧ L.take u = b.bytes := fun b u h => by
    have h1 := rr.of_first hb h
    rw [hln] at h1
    exact h1
  have HOF := Lib.hid hof; clear hof
  have HAT := Lib.hid hat; clear hat
  have HB := Lib.hid hb; clear hb
  have HLN := Lib.hid hln; clear hln
  unfold maxLen at hc
  go_enter Try.func34, Try.ntmps34
  by_cases h50 : n < 50
  · have hnone : dec.first L = none := none_of fun x hx => by
      obtain ⟨b, u⟩ := x
      obtain ⟨-, q1, q2, -⟩ := HOF.out b u hx
      omega
    have HNONE := Lib.hid hnone; clear hnone
    have HBKW := Lib.hid (Blk.new w 42 #[.int .i64 0, .int .i64 0, .int .i64 0, .int .i64 0, .int .i64 0, .slice none 0 0])
    have hend : ∀ wx, Below w.heap.size w wx → Below w.heap.size w (wx.setRow w.heap.size #[.int .i64 0, .int .i64 0, .int .i64 0, .int .i64 0, .int .i64 0, .slice none 0 0]) := fun wx h =>
      h.trans ((Chg.setRow wx w.heap.size _).below h.size fun k hk => by have hk : k = w.heap.size := hk; omega)
    have HEND := Lib.hid hend; clear hend
    go_wp2_with (show Go.wpList _ _ _ (⟨_, .store _ (.tmp 2) (.tmp 22), _, _, _, _⟩ :: _) _ _; go_loud (refine wpList_store_row rfl 42 (.tmp 2) (.tmp 22) rfl w.heap.size #[.int .i64 0, .int .i64 0, .int .i64 0, .int .i64 0, .int .i64 0, .slice none 0 0] rfl rfl _ _ HBKW.out bat.info6 rfl (by simp [Value.oneCell']) ?_))
    have hk7 := HBKW.out.row #[.int .i64 0, .int .i64 0, .int .i64 0, .int .i64 0, .int .i64 0, .slice none 0 0]
    (try rw [Exit.noGoto_ret])
    (try simp only [Exit.inBlock, Exit.then])
    refine bodyPost_ret (res_cell2 rfl _ _ _ _ _ rfl hk7 Try.underlying42 rfl bat.info6) rfl ?_
    exact HNO.out _ (HEND.out _ (by exact (Below.refl _ w).alloc (Nat.le_refl _) _)) HNONE.out
  have hn50 : 50 ≤ n := by omega
  go_upto_region 3 with fail
  obtain ⟨w1, hw1⟩ : ∃ w1, w1 = w.alloc (.cells #[.int .i64 0, .int .i64 0, .int .i64 0, .int .i64 0, .int .i64 0, .slice none 0 0] 42) := ⟨_, rfl⟩
  try rw [← hw1]
  have hbk : Blk w1 w.heap.size 42 #[.int .i64 0, .int .i64 0, .int .i64 0, .int .i64 0, .int .i64 0, .slice none 0 0] := by rw [hw1]; exact Blk.new _ _ _
  have hb1 : Below w.heap.size w w1 := by rw [hw1]; exact (Below.refl _ w).alloc (Nat.le_refl _) _
  clear hw1
  have hlt1 : w.heap.size < w1.heap.size := hbk.lt
  have HBK := Lib.hid hbk; clear hbk
  have HB1 := Lib.hid hb1; clear hb1
  obtain ⟨p, hp⟩ : ∃ p, p = w1.heap.size := ⟨_, rfl⟩
  have hwp : w.heap.size < p := by rw [hp]; exact hlt1
  have hbel : ∀ wx, Below p w1 wx → Below w.heap.size w wx := fun wx h => HB1.out.trans (by rw [hp] at h; exact h.mono HB1.out.size)
  have HBEL := Lib.hid hbel; clear hbel
  have hbox : ∀ wx, Below p w1 wx → Blk wx w.heap.size 42 #[.int .i64 0, .int .i64 0, .int .i64 0, .int .i64 0, .int .i64 0, .slice none 0 0] := fun wx h => (chg_of (P := fun _ => False) (by rw [← hp]; exact h)).blk HBK.out id
  have HBOX := Lib.hid hbox; clear hbox
  have hatx : ∀ wx, Below p w1 wx → At wx A n (byteAt L) := fun wx h => (HAT.out.below HB1.out (Nat.le_refl _)).below h (by rw [hp]; exact Nat.le_refl _)
  have HATX := Lib.hid hatx; clear hatx
  have hend : ∀ wx, Below p w1 wx → Below w.heap.size w (wx.setRow w.heap.size #[.int .i64 0, .int .i64 0, .int .i64 0, .int .i64 0, .int .i64 0, .slice none 0 0]) := fun wx h => by
    have h := HBEL.out wx h
    exact h.trans ((Chg.setRow wx w.heap.size _).below h.size fun k hk => by have hk : k = w.heap.size := hk; omega)
  have HEND := Lib.hid hend; clear hend
  have hrefl : Below p w1 w1 := Below.refl _ _
  have HREFL := Lib.hid hrefl; clear hrefl
  obtain ⟨b, off, hA, hbl, -⟩ := (HATX.out w1 HREFL.out) (by omega)
  subst hA
  obtain ⟨v, hv⟩ : ∃ v, v = rr.fx L 8 4 := ⟨_, rfl⟩
  have hv0 : 0 ≤ v ∧ v < 4294967296 := by rw [hv]; exact rr.fx_lt HB.out 8 4 (by omega)
  obtain ⟨hv1, hv2⟩ := hv0
  have hg8 := rr.getfx HLN.out (HATX.out w1 HREFL.out) HB.out 8 4 (c - 8) (by omega) (by omega)
  rw [← hv] at hg8
  have HG8 := Lib.hid hg8; clear hg8
  have HV := Lib.hid hv; clear hv
  have HBKW := Lib.hid (HBOX.out w1 HREFL.out)
  have HP := Lib.hid hp; clear hp
  have hc50 : 50 ≤ c := by omega
  go_wp2_with fail
  refine HG8.out.mono ?_
  rintro e w2 ⟨rfl, hw⟩
  obtain rfl := hw.symm
  by_cases hbad : v < 38 ∨ 65536 < v ∨ (n : Int) - 12 < v
  · have hnone : dec.first L = none := none_of fun x hx => by
      obtain ⟨b, u⟩ := x
      obtain ⟨-, q1, q2, q3, q4, -⟩ := HOF.out b u hx
      rw [← HV.out] at q4
      omega
    have HNONE := Lib.hid hnone; clear hnone
    have hb3 : v < 38 ∨ (38 ≤ v ∧ 65536 < v) ∨ (38 ≤ v ∧ v ≤ 65536 ∧ (n : Int) - 12 < v) := by omega
    clear hbad
    rcases hb3 with h1 | ⟨h1, h2⟩ | ⟨h1, h2, h3⟩
    all_goals
      go_wp2_with (show Go.wpList _ _ _ (⟨_, .store _ (.tmp 2) (.tmp 39), _, _, _, _⟩ :: _) _ _; go_loud (refine wpList_store_row rfl 42 (.tmp 2) (.tmp 39) rfl w.heap.size #[.int .i64 0, .int .i64 0, .int .i64 0, .int .i64 0, .int .i64 0, .slice none 0 0] rfl rfl _ _ HBKW.out bat.info6 rfl (by simp [Value.oneCell']) ?_))
      have hk7 := HBKW.out.row #[.int .i64 0, .int .i64 0, .int .i64 0, .int .i64 0, .int .i64 0, .slice none 0 0]
      (try rw [Exit.noGoto_ret])
      (try simp only [Exit.inBlock, Exit.then])
      refine bodyPost_ret (res_cell2 rfl _ _ _ _ _ rfl hk7 Try.underlying42 rfl bat.info6) rfl ?_
      exact HNO.out _ (HEND.out _ HREFL.out) HNONE.out
  have hg1 : 38 ≤ v := by omega
  have hg2 : v ≤ 65536 := by omega
  have hg3 : v ≤ (n : Int) - 12 := by omega
  clear hbad
  obtain ⟨u, hu⟩ : ∃ u : Nat, (u : Int) = 12 + v := ⟨12 + v.toNat, by omega⟩
  have hu50 : 50 ≤ u := by omega
  have hun : u ≤ n := by omega
  have hu6 : u ≤ 70000 := by omega
  have HU := Lib.hid hu; clear hu
  go_upto_region 7 with (show Go.wpList _ _ _ (⟨_, .slice _ (.tmp 40) _ _ _, _, _, _, _⟩ :: _) _ _; go_loud (refine wpList_slicep rfl (.tmp 40) _ _ rfl (some ⟨b, off, none⟩) n c 0 u rfl (.inl ⟨rfl, rfl⟩) (.inr (by rw [HU.out]; rfl)) (by omega) hun hn ?_; intro A2 cp hp hcp hcp2; have HP2 := Lib.hid hp; clear hp; rw [Nat.sub_zero] at hcp ⊢))
  obtain ⟨P, hP⟩ : ∃ P, P = L.take u := ⟨_, rfl⟩
  have hpl : P.length = u := by rw [hP, List.length_take, HLN.out]; omega
  have hpp : Piece (some ⟨b, off, none⟩) L A2 P := by
    have h := HP2.out L HLN.out
    rw [List.drop_zero, Nat.sub_zero, ← hP] at h
    exact h
  have hpb : ∀ x ∈ P, x < 256 := fun x hx => HB.out x (List.mem_of_mem_take (by rw [← hP]; exact hx))
  have hd : ∀ b' u', dec.first L = some (b', u') → b'.check = 0 ∧ P = b'.bytes ∧ rr.Facts P b' := fun b' u' h => by
    obtain ⟨q0, q1, q2, q3, q4, q5⟩ := HOF.out b' u' h
    rw [← HV.out] at q4
    have hu := HU.out
    obtain rfl : u' = u := by omega
    rw [← hP] at q5
    exact ⟨q0, q5, by rw [q5]; exact rr.facts q0⟩
  have hend2 : ∀ B : Bat, B.check = 0 → P = B.bytes → dec.first L = some (B, u) := fun B h1 h2 => rr.first_of h1 (by rw [HLN.out]; exact hun) (by rw [← hP]; exact h2)
  have HEND2 := Lib.hid hend2; clear hend2
  have HD := Lib.hid hd; clear hd
  have HPB := Lib.hid hpb; clear hpb
  have HPL := Lib.hid hpl; clear hpl
  have hat2 : ∀ wx, Below p w1 wx → At wx A2 u (byteAt P) := fun wx h => by
    have h1 := hpp wx (by rw [HLN.out]; exact HATX.out wx h)
    rw [HPL.out] at h1
    exact h1
  have HAT2 := Lib.hid hat2; clear hat2
  have HPP := Lib.hid hpp; clear hpp HP2
  clear hP
  obtain ⟨b2, off2, hA2, -, -⟩ := (HAT2.out w1 HREFL.out) (by omega)
  subst hA2
  obtain ⟨Bs, hBs⟩ : ∃ v, v = rr.fx P 0 8 := ⟨_, rfl⟩
  obtain ⟨Ls, hLs⟩ : ∃ v, v = rr.fx P 16 8 := ⟨_, rfl⟩
  obtain ⟨Fs, hFs⟩ : ∃ v, v = rr.fx P 24 8 := ⟨_, rfl⟩
  obtain ⟨Pd, hPd⟩ : ∃ v, v = rr.fx P 32 8 := ⟨_, rfl⟩
  obtain ⟨Ep, hEp⟩ : ∃ v, v = rr.fx P 40 2 := ⟨_, rfl⟩
  obtain ⟨Sq, hSq⟩ : ∃ v, v = rr.fx P 42 4 := ⟨_, rfl⟩
  obtain ⟨Ct, hCt⟩ : ∃ v, v = rr.fx P 46 4 := ⟨_, rfl⟩
  have hct := rr.fx_lt HPB.out 46 4 (by omega)
  rw [← hCt] at hct
  obtain ⟨hct1, hct2⟩ := hct
  have hf0 : ∀ wx cc, Below p w1 wx → Calls Try.prog 54 #[.slice (some ⟨b2, off2, none⟩) 8 cc] wx fun e w' => e = .returned (.int .i64 Bs) ∧ w' = wx := fun wx cc h => by
    have h := rr.getfx HPL.out (HAT2.out wx h) HPB.out 0 8 cc (by omega) (by omega)
    rw [Nat.add_zero, ← hBs] at h
    exact h
  have hf16 : ∀ wx cc, Below p w1 wx → Calls Try.prog 54 #[.slice (some ⟨b2, off2 + 16, none⟩) 8 cc] wx fun e w' => e = .returned (.int .i64 Ls) ∧ w' = wx := fun wx cc h => by rw [hLs]; exact rr.getfx HPL.out (HAT2.out wx h) HPB.out 16 8 cc (by omega) (by omega)
  have hf24 : ∀ wx cc, Below p w1 wx → Calls Try.prog 54 #[.slice (some ⟨b2, off2 + 24, none⟩) 8 cc] wx fun e w' => e = .returned (.int .i64 Fs) ∧ w' = wx := fun wx cc h => by rw [hFs]; exact rr.getfx HPL.out (HAT2.out wx h) HPB.out 24 8 cc (by omega) (by omega)
  have hf32 : ∀ wx cc, Below p w1 wx → Calls Try.prog 54 #[.slice (some ⟨b2, off2 + 32, none⟩) 8 cc] wx fun e w' => e = .returned (.int .i64 Pd) ∧ w' = wx := fun wx cc h => by rw [hPd]; exact rr.getfx HPL.out (HAT2.out wx h) HPB.out 32 8 cc (by omega) (by omega)
  have hf40 : ∀ wx cc, Below p w1 wx → Calls Try.prog 54 #[.slice (some ⟨b2, off2 + 40, none⟩) 2 cc] wx fun e w' => e = .returned (.int .i64 Ep) ∧ w' = wx := fun wx cc h => by rw [hEp]; exact rr.getfx HPL.out (HAT2.out wx h) HPB.out 40 2 cc (by omega) (by omega)
  have hf42 : ∀ wx cc, Below p w1 wx → Calls Try.prog 54 #[.slice (some ⟨b2, off2 + 42, none⟩) 4 cc] wx fun e w' => e = .returned (.int .i64 Sq) ∧ w' = wx := fun wx cc h => by rw [hSq]; exact rr.getfx HPL.out (HAT2.out wx h) HPB.out 42 4 cc (by omega) (by omega)
  have hf46 : ∀ wx cc, Below p w1 wx → Calls Try.prog 54 #[.slice (some ⟨b2, off2 + 46, none⟩) 4 cc] wx fun e w' => e = .returned (.int .i64 Ct) ∧ w' = wx := fun wx cc h => by rw [hCt]; exact rr.getfx HPL.out (HAT2.out wx h) HPB.out 46 4 cc (by omega) (by omega)
  have HF0 := Lib.hid hf0; clear hf0
  have HF16 := Lib.hid hf16; clear hf16
  have HF24 := Lib.hid hf24; clear hf24
  have HF32 := Lib.hid hf32; clear hf32
  have HF40 := Lib.hid hf40; clear hf40
  have HF42 := Lib.hid hf42; clear hf42
  have HF46 := Lib.hid hf46; clear hf46
  have HFS := Lib.hid (And.intro hBs (And.intro hLs (And.intro hFs (And.intro hPd (And.intro hEp (And.intro hSq hCt)))))); clear hBs hLs hFs hPd hEp hSq hCt
  have hd2 : ∀ b' u', dec.first L = some (b', u') → b'.may ∧ (0 ≤ Bat.first b'.recs ∧ Bat.first b'.recs ≤ 1125899906842624) ∧ b'.recs.length ≤ 100 ∧ b'.base = Bs ∧ b'.last - b'.base = Ls ∧ Bat.first b'.recs = Fs ∧ b'.prod = Pd ∧ b'.epoch = Ep ∧ b'.seq = Sq ∧ (b'.recs.length : Int) = Ct := fun b' u' h => by
    have hf := (HD.out b' u' h).2.2
    obtain ⟨g1, g2, g3, g4, g5, g6, g7⟩ := HFS.out
    exact ⟨hf.may, hf.first0, hf.most, by rw [g1, hf.base], by rw [g2, hf.last], by rw [g3, hf.first], by rw [g4, hf.prod], by rw [g5, hf.epoch], by rw [g6, hf.seq], by rw [g7, hf.count]⟩
  have HD2 := Lib.hid hd2; clear hd2
  have hcp50 : 50 ≤ cp := by omega
  have hq0 : ∀ k cc, Calls Try.prog 54 #[.slice (some ⟨b2, off2, none⟩) 8 cc] (w1.drewN k) fun e w' => e = .returned (.int .i64 Bs) ∧ w' = w1.drewN k := fun k cc => HF0.out _ cc (bdrew HREFL.out k)
  have hq16 : ∀ k cc, Calls Try.prog 54 #[.slice (some ⟨b2, off2 + 16, none⟩) 8 cc] (w1.drewN k) fun e w' => e = .returned (.int .i64 Ls) ∧ w' = w1.drewN k := fun k cc => HF16.out _ cc (bdrew HREFL.out k)
  have HQ0 := Lib.hid hq0; clear hq0
  have HQ16 := Lib.hid hq16; clear hq16
  go_quiet (first
    | (go_at_call 54; with_reducible exact Calls.quiet_of_same (HQ0.out _ _))
    | (go_at_call 54; with_reducible exact Calls.quiet_of_same (HQ16.out _ _)))
  obtain ⟨w2, hw2⟩ : ∃ w2, w2 = w1.drewN nq := ⟨_, rfl⟩
  rw [← hw2]
  have hb2 : Below p w1 w2 := by rw [hw2]; exact bdrew HREFL.out nq
  clear hw2
  have HB2 := Lib.hid hb2; clear hb2
  clear HBKW
  have HBKW := Lib.hid (HBOX.out w2 HB2.out)
  have hlt2 : w.heap.size < w2.heap.size := HBKW.out.lt
  go_upto_region 9 with (go_at_call 54; (with_reducible refine (HF24.out w2 _ HB2.out).mono ?_); rintro e w3 ⟨rfl, hw⟩; obtain rfl := hw.symm)
  by_cases hbad : Bs < 0 ∨ 4611686018427387904 < Bs ∨ Ls < 0 ∨ 4611686018427387904 - Bs < Ls ∨ Fs < 0 ∨ 1125899906842624 < Fs
  · have hnone : dec.first L = none := none_of fun x hx => by
      obtain ⟨b', u'⟩ := x
      obtain ⟨m, q1, q2, rfl, rfl, rfl, -⟩ := HD2.out b' u' hx
      obtain ⟨m0, m1, m2, m3, -⟩ := m
      omega
    have HNONE := Lib.hid hnone; clear hnone
    have hb6 : Bs < 0 ∨ (0 ≤ Bs ∧ 4611686018427387904 < Bs) ∨ (0 ≤ Bs ∧ Bs ≤ 4611686018427387904 ∧ Ls < 0) ∨ (0 ≤ Bs ∧ Bs ≤ 4611686018427387904 ∧ 0 ≤ Ls ∧ 4611686018427387904 - Bs < Ls) ∨
      (0 ≤ Bs ∧ Bs ≤ 4611686018427387904 ∧ 0 ≤ Ls ∧ Ls ≤ 4611686018427387904 - Bs ∧ Fs < 0) ∨ (0 ≤ Bs ∧ Bs ≤ 4611686018427387904 ∧ 0 ≤ Ls ∧ Ls ≤ 4611686018427387904 - Bs ∧ 0 ≤ Fs ∧ 1125899906842624 < Fs) := by
      clear HNONE
      omega
    clear hbad
    rcases hb6 with h1 | ⟨h1, h2⟩ | ⟨h1, h2, h3⟩ | ⟨h1, h2, h3, h4⟩ | ⟨h1, h2, h3, h4, h5⟩ | ⟨h1, h2, h3, h4, h5, h6⟩
    all_goals
      go_wp2_with (show Go.wpList _ _ _ (⟨_, .store _ (.tmp 2) (.tmp 77), _, _, _, _⟩ :: _) _ _; go_loud (refine wpList_store_row rfl 42 (.tmp 2) (.tmp 77) rfl w.heap.size #[.int .i64 0, .int .i64 0, .int .i64 0, .int .i64 0, .int .i64 0, .slice none 0 0] rfl rfl _ _ HBKW.out bat.info6 rfl (by simp [Value.oneCell']) ?_))
      have hk7 := HBKW.out.row #[.int .i64 0, .int .i64 0, .int .i64 0, .int .i64 0, .int .i64 0, .slice none 0 0]
      (try rw [Exit.noGoto_ret])
      (try simp only [Exit.inBlock, Exit.then])
      refine bodyPost_ret (res_cell2 rfl _ _ _ _ _ rfl hk7 Try.underlying42 rfl bat.info6) rfl ?_
      exact HNO.out _ (HEND.out _ HB2.out) HNONE.out
  have g1 : 0 ≤ Bs := by omega
  have g2 : Bs ≤ 4611686018427387904 := by omega
  have g3 : 0 ≤ Ls := by omega
  have g4 : Ls ≤ 4611686018427387904 - Bs := by omega
  have g5 : 0 ≤ Fs := by omega
  have g6 : Fs ≤ 1125899906842624 := by omega
  clear hbad
  go_upto_region 11 with fail
  go_cut [8] from 78 to 91 (fun s8 wx => ∃ g, s8 = .pointer (some ⟨g, 0, none⟩) ∧ p ≤ g ∧ Blk wx g 42 #[.int .i64 Bs, .int .i64 (Bs + Ls), .int .i64 Pd, .int .i64 Ep, .int .i64 Sq, .slice none 0 0] ∧ Below p w1 wx)
  case first =>
    have hx : ∀ w0, (∃ x : Later w2 (fun _ => False), w0 = x.1) → Below p w1 w0 := by
      rintro _ ⟨x, rfl⟩
      exact HB2.out.trans ((x.2.below (Nat.le_refl _) fun _ q => q.elim).mono (by rw [HP.out]; exact HB2.out.size))
    have HX := Lib.hid hx; clear hx
    have hx32 : ∀ w0, (∃ x : Later w2 (fun _ => False), w0 = x.1) → Calls Try.prog 54 #[.slice (some ⟨b2, off2 + 32, none⟩) 8 (cp - 32)] w0 fun e w' => e = .returned (.int .i64 Pd) ∧ w' = w0 := fun w0 h => HF32.out w0 _ (HX.out w0 h)
    have hx40 : ∀ w0, (∃ x : Later w2 (fun _ => False), w0 = x.1) → Calls Try.prog 54 #[.slice (some ⟨b2, off2 + 40, none⟩) 2 (cp - 40)] w0 fun e w' => e = .returned (.int .i64 Ep) ∧ w' = w0 := fun w0 h => HF40.out w0 _ (HX.out w0 h)
    have hx42 : ∀ w0, (∃ x : Later w2 (fun _ => False), w0 = x.1) → Calls Try.prog 54 #[.slice (some ⟨b2, off2 + 42, none⟩) 4 (cp - 42)] w0 fun e w' => e = .returned (.int .i64 Sq) ∧ w' = w0 := fun w0 h => HF42.out w0 _ (HX.out w0 h)
    have HX32 := Lib.hid hx32; clear hx32
    have HX40 := Lib.hid hx40; clear hx40
    have HX42 := Lib.hid hx42; clear hx42
    have hS0 : later w2 (fun _ => False) w2.drew := later_of ((Chg.refl _ _).drew)
    refine wp_plan (S := fun w0 => ∃ x : Later w2 (fun _ => False), w0 = x.1) (by kernel_rfl) hS0 ?_
    intro hS K hK
    have HS := Lib.hid hS; clear hS hS0
    refine plan_group [true, true, true, true, true, true, false, true, true, false, true, true] [0, 1, 2, 3, 4, 5, 7, 8, 10, 11] 6 (by dsimp only [sel]) (by rfl) rfl (by kernel_rfl) (by kernel_rfl) HS.out ?_
    (repeat go_big_quiet_step (fail)); refine wpQuiet_nil ?_
    refine plan_pure [false, false, false, false, false, false, true] 6 (some 84) 5 (.int .i64 Pd) (by dsimp only [sel]) (by rfl) rfl (by rfl) (by rfl) (Go.Proofs.enters_of Try.func54 (by kernel_rfl) rfl) (by rfl) (by kernel_rfl) (by kernel_rfl) HS.out (by exact HX32.out) ?_; go_big_quiet_step (fail); refine wpQuiet_nil ?_
    refine plan_pure [false, false, false, false, false, false, false, false, false, true] 9 (some 87) 4 (.int .i64 Ep) (by dsimp only [sel]) (by rfl) rfl (by rfl) (by rfl) (Go.Proofs.enters_of Try.func54 (by kernel_rfl) rfl) (by rfl) (by kernel_rfl) (by kernel_rfl) HS.out (by exact HX40.out) ?_; go_big_quiet_step (fail); refine wpQuiet_nil ?_
    refine plan_pure [false, false, false, false, false, false, false, false, false, false, false, false, true] 12 (some 90) 3 (.int .i64 Sq) (by dsimp only [sel]) (by rfl) rfl (by rfl) (by rfl) (Go.Proofs.enters_of Try.func54 (by kernel_rfl) rfl) (by rfl) (by kernel_rfl) (by kernel_rfl) HS.out (by exact HX42.out) ?_; go_big_quiet_step (fail); refine wpQuiet_nil ?_
    obtain ⟨w3, hw3⟩ : ∃ w3, w3 = w2.drew := ⟨_, rfl⟩
    have hb3 : Below p w1 w3 := by rw [hw3]; exact bdrew HB2.out 1
    have hz3 : w2.heap.size = w3.heap.size := by rw [hw3]; rfl
    rw [← hw3] at HS ⊢
    clear hw3
    have HB3 := Lib.hid hb3; clear hb3
    have hpz : p ≤ w3.heap.size := by rw [HP.out]; exact HB3.out.size
    have hal : ∃ w4, w4 = w3.alloc (.cells #[.int .i64 0, .int .i64 0, .int .i64 0, .int .i64 0, .int .i64 0, .slice none 0 0] 42) := ⟨_, rfl⟩
    have hfin : ∀ w4, w4 = w3.alloc (.cells #[.int .i64 0, .int .i64 0, .int .i64 0, .int .i64 0, .int .i64 0, .slice none 0 0] 42) → Blk w4 w3.heap.size 42 #[.int .i64 0, .int .i64 0, .int .i64 0, .int .i64 0, .int .i64 0, .slice none 0 0] ∧ Below p w1 w4 ∧ Below p w1 (w4.setRow w3.heap.size #[.int .i64 Bs, .int .i64 (Bs + Ls), .int .i64 Pd, .int .i64 Ep, .int .i64 Sq, .slice none 0 0]) ∧ Chg w2 w4 (fun _ => False) ∧ Chg w2 (w4.setRow w3.heap.size #[.int .i64 Bs, .int .i64 (Bs + Ls), .int .i64 Pd, .int .i64 Ep, .int .i64 Sq, .slice none 0 0]) (fun _ => False) := fun w4 h => by
      have h1 : Below p w1 w4 := by rw [h]; exact HB3.out.alloc hpz _
      have hs := HS.out
      obtain ⟨x, hx⟩ := hs
      have h2 : Chg w2 w3 (fun _ => False) := by rw [hx]; exact x.2
      have h3 : Chg w2 w4 (fun _ => False) := by rw [h]; exact h2.trans (Chg.alloc _ _ (fun _ => False)) (fun _ _ q => q)
      have hc := Chg.setRow w4 w3.heap.size #[.int .i64 Bs, .int .i64 (Bs + Ls), .int .i64 Pd, .int .i64 Ep, .int .i64 Sq, .slice none 0 0]
      refine ⟨by rw [h]; exact Blk.new _ _ _, h1, h1.trans (hc.below ?_ fun k hk => by have hk : k = w3.heap.size := hk; omega), h3, h3.trans hc fun k hk hq => by have hq : k = w3.heap.size := hq; omega⟩
      rw [HP.out]
      exact h1.size
    have HFIN := Lib.hid hfin; clear hfin hal
    refine plan_two [false, false, false, false, false, false, false, false, false, false, false, false, false, true] [false, false, false, false, false, false, false, false, false, false, false, false, false, false, true] 13 14 2 (by dsimp only [sel]) (by dsimp only [sel]) (by rfl) (by rfl) rfl (by kernel_rfl) ?_ ?_
    · intro K1 hK1; go_wp2_with fail
      refine ⟨HS.out, ?_⟩
      refine plan_one [false, false, false, false, false, false, false, false, false, false, false, false, false, false, true] 14 1 (by dsimp only [sel]) (by rfl) rfl (by kernel_rfl) ?_; intro K2 hK2; go_wp2_with fail
      obtain ⟨w4, hw4⟩ : ∃ w4, w4 = w3.alloc (.cells #[.int .i64 0, .int .i64 0, .int .i64 0, .int .i64 0, .int .i64 0, .slice none 0 0] 42) := ⟨_, rfl⟩
      rw [← hw4]
      have HQ := Lib.hid (HFIN.out w4 hw4); clear hw4
      refine ⟨later_of HQ.out.2.2.2.1, ?_⟩
      refine plan_one [false, false, false, false, false, false, false, false, false, false, false, false, false, false, false, true] 15 0 (by dsimp only [sel]) (by rfl) rfl (by kernel_rfl) ?_; intro K3 hK3; go_wp2_with (show Go.wpList _ _ _ (⟨_, .store _ (.tmp 8) (.tmp 91), _, _, _, _⟩ :: _) _ _; go_loud (refine wpList_store_row rfl 42 (.tmp 8) (.tmp 91) rfl w3.heap.size #[.int .i64 Bs, .int .i64 (Bs + Ls), .int .i64 Pd, .int .i64 Ep, .int .i64 Sq, .slice none 0 0] rfl rfl _ _ HQ.out.1 bat.info6 rfl (by simp [Value.oneCell']) ?_))
      go_simp
      refine ⟨later_of HQ.out.2.2.2.2, ?_⟩
      refine wp_plan_end (by kernel_rfl) ?_
      refine hK _ _ ?_
      go_wp2_with fail
      go_meet
      case rel => exact ⟨w3.heap.size, rfl, hpz, HQ.out.1.row _, HQ.out.2.2.1⟩
    · intro K1 hK1; go_wp2_with fail
      obtain ⟨w4, hw4⟩ : ∃ w4, w4 = w3.alloc (.cells #[.int .i64 0, .int .i64 0, .int .i64 0, .int .i64 0, .int .i64 0, .slice none 0 0] 42) := ⟨_, rfl⟩
      rw [← hw4]
      have HQ := Lib.hid (HFIN.out w4 hw4); clear hw4
      have HS4 := Lib.hid (later_of HQ.out.2.2.2.1)
      refine ⟨HS4.out, ?_⟩
      refine plan_one [false, false, false, false, false, false, false, false, false, false, false, false, false, true] 13 1 (by dsimp only [sel]) (by rfl) rfl (by kernel_rfl) ?_; intro K2 hK2; go_wp2_with fail
      refine ⟨HS4.out, ?_⟩
      refine plan_one [false, false, false, false, false, false, false, false, false, false, false, false, false, false, false, true] 15 0 (by dsimp only [sel]) (by rfl) rfl (by kernel_rfl) ?_; intro K3 hK3; go_wp2_with (show Go.wpList _ _ _ (⟨_, .store _ (.tmp 8) (.tmp 91), _, _, _, _⟩ :: _) _ _; go_loud (refine wpList_store_row rfl 42 (.tmp 8) (.tmp 91) rfl w3.heap.size #[.int .i64 Bs, .int .i64 (Bs + Ls), .int .i64 Pd, .int .i64 Ep, .int .i64 Sq, .slice none 0 0] rfl rfl _ _ HQ.out.1 bat.info6 rfl (by simp [Value.oneCell']) ?_))
      go_simp
      refine ⟨later_of HQ.out.2.2.2.2, ?_⟩
      refine wp_plan_end (by kernel_rfl) ?_
      refine hK _ _ ?_
      go_wp2_with fail
      go_meet
      case rel => exact ⟨w3.heap.size, rfl, hpz, HQ.out.1.row _, HQ.out.2.2.1⟩
  case rest =>
    obtain ⟨gb, rfl, hpg, hbg, hbc⟩ := hcut
    have HBG := Lib.hid hbg; clear hbg
    have HBC := Lib.hid hbc; clear hbc
    clear HBKW HF0 HF16 HF24 HF32 HF40 HF42 HQ0 HQ16 hlt2 HB2
    have HBKW := Lib.hid (HBOX.out wc HBC.out)
    have hltc : w.heap.size < wc.heap.size := HBKW.out.lt
    have hltg : gb < wc.heap.size := HBG.out.lt
    go_upto_region 14 with (first
      | (show Go.wpList _ _ _ (⟨_, .slice _ (.tmp 92) _ _ _, _, _, _, _⟩ :: _) _ _; refine wpList_slicep rfl (.tmp 92) _ _ rfl (some ⟨b2, off2, none⟩) u cp 50 u rfl (.inr rfl) (.inl ⟨rfl, rfl⟩) hu50 (Nat.le_refl _) hcp ?_; intro A9 c9 hp hc91 hc92; have HP9 := Lib.hid hp; clear hp)
      | (go_at_call 54; (with_reducible refine (HF46.out wc _ HBC.out).mono ?_); rintro e w3 ⟨rfl, hw⟩; obtain rfl := hw.symm))
    by_cases h100 : 100 < Ct
    · have hnone : dec.first L = none := none_of fun x hx => by
        obtain ⟨b', u'⟩ := x
        obtain ⟨-, -, q1, -, -, -, -, -, -, q2⟩ := HD2.out b' u' hx
        omega
      have HNONE := Lib.hid hnone; clear hnone
      go_wp2_with (show Go.wpList _ _ _ (⟨_, .store _ (.tmp 2) (.tmp 99), _, _, _, _⟩ :: _) _ _; go_loud (refine wpList_store_row rfl 42 (.tmp 2) (.tmp 99) rfl w.heap.size #[.int .i64 0, .int .i64 0, .int .i64 0, .int .i64 0, .int .i64 0, .slice none 0 0] rfl rfl _ _ HBKW.out bat.info6 rfl (by simp [Value.oneCell']) ?_))
      have hk7 := HBKW.out.row #[.int .i64 0, .int .i64 0, .int .i64 0, .int .i64 0, .int .i64 0, .slice none 0 0]
      (try rw [Exit.noGoto_ret])
      (try simp only [Exit.inBlock, Exit.then])
      refine bodyPost_ret (res_cell2 rfl _ _ _ _ _ rfl hk7 Try.underlying42 rfl bat.info6) rfl ?_
      exact HNO.out _ (HEND.out _ HBC.out) HNONE.out
    obtain ⟨q, rfl⟩ : ∃ q : Nat, Ct = (q : Int) := ⟨Ct.toNat, by omega⟩
    have hq100 : q ≤ 100 := by omega
    clear h100 hct1 hct2 HF46
    have hpk9 : Piece (some ⟨b2, off2, none⟩) P A9 (P.drop 50) := by
      have h := HP9.out P HPL.out
      rw [List.take_of_length_le (by rw [List.length_drop, HPL.out]; exact Nat.le_refl _)] at h
      exact h
    have HPK9 := Lib.hid hpk9; clear hpk9 HP9
    go_wp2_with fail
    go_loopg [9, 11] q (fun g s9 s11 wx => ∃ (k : Nat) (rs : List Rec) (Rk : List Nat) (Ak : Option Addr) (mk ck : Nat) (Ar : Option Addr) (cr : Nat), k + g = q ∧ s11 = .int .i64 (k : Int) ∧ s9 = .slice Ak mk ck ∧ Rk.length = mk ∧ Piece (some ⟨b2, off2, none⟩) P Ak Rk ∧ mk ≤ ck ∧ ck ≤ maxLen ∧ mk ≤ 1000000 ∧ (∀ x ∈ Rk, x < 256) ∧ Below p w1 wx ∧ rs.length = k ∧
      Blk wx gb 42 #[.int .i64 Bs, .int .i64 (Bs + Ls), .int .i64 Pd, .int .i64 Ep, .int .i64 Sq, .slice Ar k cr] ∧ RowR wx (gb + 1) (.slice Ar k cr) rs ∧ ∀ b' u', dec.first L = some (b', u') → rs = b'.recs.take k ∧ Rk = rr.flat b' k)
    case atStart => exact ⟨0, [], P.drop 50, A9, u - 50, c9, none, 0, by omega, rfl, rfl, by rw [List.length_drop, HPL.out], HPK9.out, hc91, by unfold maxLen; omega, by omega, fun x hx => HPB.out x (List.mem_of_mem_drop hx), HBC.out, rfl, HBG.out, RowR.nil _ _, fun b' u' h => ⟨by rw [List.take_zero], (HD.out b' u' h).2.2.rest⟩⟩
    case round =>
      obtain ⟨k, rs, Rk, Ak, mk, ck, Ar, cr, hkg, rfl, rfl, hmk, hpk, hmk1, hck, hmkl, hbk, hbx, hrl, hbb, hrow, hdk⟩ := hrel
      have HMK := Lib.hid hmk; clear hmk
      have HPK := Lib.hid hpk; clear hpk
      have HBYT := Lib.hid hbk; clear hbk
      have HBX := Lib.hid hbx; clear hbx
      have HRL := Lib.hid hrl; clear hrl
      have HBB := Lib.hid hbb; clear hbb
      have HROW := Lib.hid hrow; clear hrow
      have HDK := Lib.hid hdk; clear hdk
      clear HBKW
      have HBKW := Lib.hid (HBOX.out wr HBX.out)
      have hltw : w.heap.size < wr.heap.size := HBKW.out.lt
      have hltb : gb < wr.heap.size := HBB.out.lt
      cases gk with
      | zero =>
        obtain rfl : k = q := by omega
        have hb1b : ∀ b' u', dec.first L = some (b', u') → b' = ⟨Bs, Bs + Ls, Pd, Ep, Sq, rs⟩ := fun b' u' h => by
          obtain ⟨-, -, -, e1, e2, -, e4, e5, e6, e7⟩ := HD2.out b' u' h
          have e8 := (HDK.out b' u' h).1
          rw [List.take_of_length_le (by omega)] at e8
          obtain ⟨z1, z2, z3, z4, z5, z6⟩ := b'
          dsimp only at e1 e2 e4 e5 e6 e8
          subst e1 e4 e5 e6 e8
          rw [← e2, show z1 + (z2 - z1) = z2 by omega]
        have HB1B := Lib.hid hb1b; clear hb1b
        obtain ⟨xs0, hown0, -⟩ := id HROW.out
        obtain ⟨Ar', cr', hveq, hrv⟩ := HROW.out.recsV
        rw [HRL.out] at hveq hrv
        obtain ⟨rfl, rfl⟩ : Ar = Ar' ∧ cr = cr' := by simpa using hveq
        clear hveq hown0
        obtain ⟨B, hB⟩ : ∃ B : Bat, B = ⟨Bs, Bs + Ls, Pd, Ep, Sq, rs⟩ := ⟨_, rfl⟩
        have hen := ref.encode_all B Ar cr wr (by rw [hB]; show RecsV wr (.slice Ar rs.length cr) rs; rw [HRL.out]; exact hrv)
        have hval : B.hval Ar B.recs.length cr = .agg #[.int .i64 Bs, .int .i64 (Bs + Ls), .int .i64 Pd, .int .i64 Ep, .int .i64 Sq, .slice Ar k cr] := by rw [hB]; show Bat.hval _ Ar rs.length cr = _; rw [HRL.out]; rfl
        rw [hval] at hen
        have hby : ∀ r ∈ B.recs, (∀ x ∈ r.key, x < 256) ∧ (∀ x ∈ r.val, x < 256) := by rw [hB]; exact RecsV.byte (rs := rs) hrv
        have HBY := Lib.hid hby; clear hby
        have HVAL := Lib.hid hval; clear hval hrv
        have HEN := Lib.hid hen; clear hen
        have hbd : ∀ b' u', dec.first L = some (b', u') → B.check = 0 ∧ P = B.bytes := fun b' u' h => by
          obtain ⟨e1, e2, -⟩ := HD.out b' u' h
          have e3 := HB1B.out b' u' h
          rw [← hB] at e3
          rw [← e3]
          exact ⟨e1, e2⟩
        have hrs : B.recs = rs := by rw [hB]
        have HRS := Lib.hid hrs; clear hrs
        have HBD := Lib.hid hbd; clear hbd hB
        have g0 : wr.cell? ⟨gb, 0, none⟩ = some (.int .i64 Bs) := HBB.out.cell 0 rfl
        have g1' : wr.cell? ⟨gb, 1, none⟩ = some (.int .i64 (Bs + Ls)) := HBB.out.cell 1 rfl
        have g2' : wr.cell? ⟨gb, 2, none⟩ = some (.int .i64 Pd) := HBB.out.cell 2 rfl
        have g3' : wr.cell? ⟨gb, 3, none⟩ = some (.int .i64 Ep) := HBB.out.cell 3 rfl
        have g4' : wr.cell? ⟨gb, 4, none⟩ = some (.int .i64 Sq) := HBB.out.cell 4 rfl
        have g5' : wr.cell? ⟨gb, 5, none⟩ = some (.slice Ar k cr) := HBB.out.cell 5 rfl
        go_wp2_with fail
        refine HEN.out.mono ?_
        rintro e w4 ⟨⟨Ae, ce, rfl, hate⟩, hb4⟩
        clear g0 g1' g2' g3' g4' g5' HBKW
        have hb41 : Below p w1 w4 := HBX.out.trans (hb4.mono (by rw [HP.out]; exact HBX.out.size))
        have hbb4 := (chg_of (P := fun _ => False) hb4).blk HBB.out id
        have hrow4 := HROW.out.below hb4
        have hlt4 : w.heap.size < w4.heap.size := by have := hb4.size; omega
        have hltb4 : gb < w4.heap.size := by have := hb4.size; omega
        have HB4 := Lib.hid hb41; clear hb41 hb4
        have HBB4 := Lib.hid hbb4; clear hbb4
        have HROW4 := Lib.hid hrow4; clear hrow4
        have HBKW := Lib.hid (HBOX.out w4 HB4.out)
        have hcv1 := conv_any (P := Try.prog) (c := ce) Try.underlying33 Try.underlying5 Try.underlying9 B.enc rfl hate
        have hcv2 := conv_any (P := Try.prog) (c := cp) Try.underlying33 Try.underlying5 Try.underlying9 P HPL.out (HAT2.out w4 HB4.out)
        clear hate
        obtain ⟨s1, hs1⟩ : ∃ s1, s1 = strOf B.enc := ⟨_, rfl⟩
        obtain ⟨s2, hs2⟩ : ∃ s2, s2 = strOf P := ⟨_, rfl⟩
        rw [← hs1] at hcv1
        rw [← hs2] at hcv2
        obtain ⟨en, hen⟩ : ∃ en, en = B.enc.length := ⟨_, rfl⟩
        rw [← hen] at hcv1 ⊢
        obtain ⟨ck2, hck2⟩ : ∃ c, c = B.check := ⟨_, rfl⟩
        rw [← hck2]
        have HEL := Lib.hid (And.intro hs1 (And.intro hs2 (And.intro hen hck2))); clear hs1 hs2 hen hck2
        by_cases hchk : ck2 = 0
        · subst hchk
          have hbe : B.enc = B.bytes := by unfold Bat.enc; rw [if_pos HEL.out.2.2.2.symm]
          by_cases heq : s1 = s2
          · have hpb2 : P = B.bytes := by
              rw [HEL.out.1, HEL.out.2.1, hbe] at heq
              exact (strOf_inj (Bat.bytes_byte' HEL.out.2.2.2.symm HBY.out) HPB.out heq).symm
            subst heq
            have hfst := HEND2.out B HEL.out.2.2.2.symm hpb2
            have HFST := Lib.hid hfst; clear hfst hpb2 hbe
            have g0 : w4.cell? ⟨gb, 0, none⟩ = some (.int .i64 Bs) := HBB4.out.cell 0 rfl
            have g1' : w4.cell? ⟨gb, 1, none⟩ = some (.int .i64 (Bs + Ls)) := HBB4.out.cell 1 rfl
            have g2' : w4.cell? ⟨gb, 2, none⟩ = some (.int .i64 Pd) := HBB4.out.cell 2 rfl
            have g3' : w4.cell? ⟨gb, 3, none⟩ = some (.int .i64 Ep) := HBB4.out.cell 3 rfl
            have g4' : w4.cell? ⟨gb, 4, none⟩ = some (.int .i64 Sq) := HBB4.out.cell 4 rfl
            have g5' : w4.cell? ⟨gb, 5, none⟩ = some (.slice Ar k cr) := HBB4.out.cell 5 rfl
            go_wp2_with (show Go.wpList _ _ _ (⟨_, .store _ (.tmp 2) (.tmp 148), _, _, _, _⟩ :: _) _ _; go_loud (refine wpList_store_row rfl 42 (.tmp 2) (.tmp 148) rfl w.heap.size #[.int .i64 Bs, .int .i64 (Bs + Ls), .int .i64 Pd, .int .i64 Ep, .int .i64 Sq, .slice Ar k cr] rfl rfl _ _ HBKW.out bat.info6 rfl (by simp [Value.oneCell']) ?_))
            have hk7 := HBKW.out.row #[.int .i64 Bs, .int .i64 (Bs + Ls), .int .i64 Pd, .int .i64 Ep, .int .i64 Sq, .slice Ar k cr]
            (try rw [Exit.noGoto_ret])
            (try simp only [Exit.inBlock, Exit.then])
            refine bodyPost_ret (res_cell2 rfl _ _ _ _ _ rfl hk7 Try.underlying42 rfl bat.info6) rfl ?_
            have hch := Chg.setRow w4 w.heap.size #[.int .i64 Bs, .int .i64 (Bs + Ls), .int .i64 Pd, .int .i64 Ep, .int .i64 Sq, .slice Ar k cr]
            have hrow5 := (HROW4.out.chg hch fun g h1 _ h3 => by have h3 : g = w.heap.size := h3; omega).up (show w.heap.size ≤ gb + 1 by omega)
            have hbz := (HBEL.out w4 HB4.out).trans (hch.below (by omega) fun k hk => by have hk : k = w.heap.size := hk; omega)
            have hlen : B.recs.length = k := by rw [HRS.out]; exact HRL.out
            refine ⟨.inr ⟨B, u, Ar, cr, HFST.out, hu50, by rw [HLN.out]; exact hun, ?_, ?_⟩, hbz⟩
            · rw [hlen, HRS.out]
              exact hrow5
            · rw [HVAL.out]
              rfl
          · have hne := text_ne5 heq
            have hnone : dec.first L = none := none_of fun x hx => by
              obtain ⟨b', u'⟩ := x
              refine heq ?_
              rw [HEL.out.1, HEL.out.2.1, hbe, (HBD.out b' u' hx).2]
            have HNONE := Lib.hid hnone; clear hnone hbe
            clear heq
            go_wp2_with (show Go.wpList _ _ _ (⟨_, .store _ (.tmp 2) (.tmp 147), _, _, _, _⟩ :: _) _ _; go_loud (refine wpList_store_row rfl 42 (.tmp 2) (.tmp 147) rfl w.heap.size #[.int .i64 0, .int .i64 0, .int .i64 0, .int .i64 0, .int .i64 0, .slice none 0 0] rfl rfl _ _ HBKW.out bat.info6 rfl (by simp [Value.oneCell']) ?_))
            have hk7 := HBKW.out.row #[.int .i64 0, .int .i64 0, .int .i64 0, .int .i64 0, .int .i64 0, .slice none 0 0]
            (try rw [Exit.noGoto_ret])
            (try simp only [Exit.inBlock, Exit.then])
            refine bodyPost_ret (res_cell2 rfl _ _ _ _ _ rfl hk7 Try.underlying42 rfl bat.info6) rfl ?_
            exact HNO.out _ (HEND.out _ HB4.out) HNONE.out
        · have hnone : dec.first L = none := none_of fun x hx => by
            obtain ⟨b', u'⟩ := x
            exact hchk (HEL.out.2.2.2.trans (HBD.out b' u' hx).1)
          have HNONE := Lib.hid hnone; clear hnone
          have hd0 : (ck2 != 0) = true := by simpa using hchk
          clear hcv1 hcv2
          go_wp2_with (show Go.wpList _ _ _ (⟨_, .store _ (.tmp 2) (.tmp 147), _, _, _, _⟩ :: _) _ _; go_loud (refine wpList_store_row rfl 42 (.tmp 2) (.tmp 147) rfl w.heap.size #[.int .i64 0, .int .i64 0, .int .i64 0, .int .i64 0, .int .i64 0, .slice none 0 0] rfl rfl _ _ HBKW.out bat.info6 rfl (by simp [Value.oneCell']) ?_))
          have hk7 := HBKW.out.row #[.int .i64 0, .int .i64 0, .int .i64 0, .int .i64 0, .int .i64 0, .slice none 0 0]
          (try rw [Exit.noGoto_ret])
          (try simp only [Exit.inBlock, Exit.then])
          refine bodyPost_ret (res_cell2 rfl _ _ _ _ _ rfl hk7 Try.underlying42 rfl bat.info6) rfl ?_
          exact HNO.out _ (HEND.out _ HB4.out) HNONE.out
      | succ gi =>
        have hkq : k < q := by omega
        have hatk : At wr Ak mk (byteAt Rk) := by
          have h := HPK.out wr (by rw [HPL.out]; exact HAT2.out wr HBX.out)
          rw [HMK.out] at h
          exact h
        have hget := wire.refgetbytes_any Ak mk ck Rk (mk : Int) wr HMK.out hatk HBYT.out hmk1 hck hmkl
        obtain ⟨hs1, hs2, hs3, hs4⟩ := rr.piece_in Rk (mk : Int)
        have hstep : ∀ b' u', dec.first L = some (b', u') → ∃ r, b'.recs[k]? = some r ∧ rd.piece Rk 0 (mk : Int) = (r.rest Fs Bs, rr.flat b' (k + 1), 0) ∧ rr.rec Fs Bs (r.rest Fs Bs) = some r := fun b' u' h => by
          obtain ⟨-, -, -, e1, -, e3, -, -, -, e7⟩ := HD2.out b' u' h
          obtain ⟨r, r1, r2, r3⟩ := rr.flat_step (HD.out b' u' h).1 (k := k) (by omega)
          have e8 := (HDK.out b' u' h).2
          have e9 := HMK.out
          rw [← e8, e9, e1, e3] at r2
          rw [e1, e3] at r3
          exact ⟨r, r1, r2, r3⟩
        have HSTEP := Lib.hid hstep; clear hstep
        obtain ⟨X, hX⟩ : ∃ X, X = (rd.piece Rk 0 (mk : Int)).1 := ⟨_, rfl⟩
        obtain ⟨M, hM⟩ : ∃ M, M = (rd.piece Rk 0 (mk : Int)).2.1 := ⟨_, rfl⟩
        obtain ⟨f, hf⟩ : ∃ f, f = (rd.piece Rk 0 (mk : Int)).2.2 := ⟨_, rfl⟩
        rw [← hX, ← hM, ← hf] at hget
        rw [← hX] at hs1 hs3
        rw [← hM] at hs2 hs4
        rw [HMK.out] at hs3 hs4
        have hxb : ∀ x ∈ X, x < 256 := fun x hx => HBYT.out x (hs1 x hx)
        have hmb : ∀ x ∈ M, x < 256 := fun x hx => HBYT.out x (hs2 x hx)
        have HXB := Lib.hid hxb; clear hxb hs1
        have HMB := Lib.hid hmb; clear hmb hs2
        have HXMF := Lib.hid (And.intro hX (And.intro hM hf)); clear hX hM hf
        have HGET := Lib.hid hget; clear hget
        have HATK := Lib.hid hatk; clear hatk
        go_wp2_with fail
        refine HGET.out.mono ?_
        rintro e w4 ⟨⟨A1, c1, A2', c2, rfl, hpcs, hx1, hm1, hm2⟩, nq4, hw4⟩
        have hz4 : wr.heap.size = w4.heap.size := by rw [hw4]; rfl
        have hb4 : Below p w1 w4 := by rw [hw4]; exact bdrew HBX.out nq4
        have hbb4 : Blk w4 gb 42 #[.int .i64 Bs, .int .i64 (Bs + Ls), .int .i64 Pd, .int .i64 Ep, .int .i64 Sq, .slice Ar k cr] := by rw [hw4]; exact HBB.out.drew nq4
        have hrow4 : RowR w4 (gb + 1) (.slice Ar k cr) rs := by
          rw [hw4]
          exact HROW.out.below (bdrew (Below.refl _ _) nq4)
        have hatx4 : At w4 A1 X.length (byteAt X) := by rw [hw4]; exact (hpcs _ (HATK.out.drew nq4)).1
        have hpm : Piece (some ⟨b2, off2, none⟩) P A2' M := fun wx h => (hpcs wx (by have h := HPK.out wx h; rw [HMK.out] at h; exact h)).2
        clear hw4 hpcs HGET HATK
        have hlt4 : w.heap.size < w4.heap.size := by omega
        have hltb4 : gb < w4.heap.size := by omega
        clear hz4 HBKW
        have HBKW := Lib.hid (HBOX.out w4 hb4)
        have HB4 := Lib.hid hb4; clear hb4
        have HBB4 := Lib.hid hbb4; clear hbb4
        have HROW4 := Lib.hid hrow4; clear hrow4
        have HPM := Lib.hid hpm; clear hpm
        have hrec := ref.readrec_any A1 c1 X.length X Fs Bs w4 rfl hatx4 HXB.out hx1 (by omega)
        clear hatx4
        obtain ⟨xn, hxn⟩ : ∃ xn, xn = X.length := ⟨_, rfl⟩
        obtain ⟨mn, hmn⟩ : ∃ mn, mn = M.length := ⟨_, rfl⟩
        rw [← hxn] at hrec hx1 hs3 ⊢
        rw [← hmn] at hm1 hs4 ⊢
        have HMN := Lib.hid hmn; clear hmn hxn
        have HREC := Lib.hid hrec; clear hrec
        unfold maxLen at hm2
        by_cases hf0 : f = 0
        · subst hf0
          go_wp2_with fail
          refine HREC.out.mono ?_
          rintro e w5 ⟨⟨x0, x1, y2, v3, y4, v5, ok, K, V, rfl, hf3, hf5, hrr⟩, hb5⟩
          have HF3 := Lib.hid hf3
          have HF5 := Lib.hid hf5
          obtain ⟨⟨A3, c3, rfl, q31, q32, q33, q34⟩, q35⟩ := hf3
          obtain ⟨⟨A5, c5, rfl, q51, q52, q53, q54⟩, q55⟩ := hf5
          clear q31 q32 q33 q34 q35 q51 q52 q53 q54 q55
          have HRR := Lib.hid hrr; clear hrr
          obtain ⟨kn, hkn⟩ : ∃ kn, kn = K.length := ⟨_, rfl⟩
          obtain ⟨vn, hvn⟩ : ∃ vn, vn = V.length := ⟨_, rfl⟩
          rw [← hkn] at HF3 ⊢
          rw [← hvn] at HF5 ⊢
          clear hkn hvn
          go_upto_region 23 with fail
          obtain ⟨w6, hw6⟩ : ∃ w6, w6 = w5.alloc (.cells #[.int .i64 x0, .int .i64 x1, .bool y2, .slice A3 kn c3, .bool y4, .slice A5 vn c5] 44) := ⟨_, rfl⟩
          rw [← hw6]
          have hb45 : Below p w1 w5 := HB4.out.trans (hb5.mono (by rw [HP.out]; exact HB4.out.size))
          have hpw5 : p ≤ w5.heap.size := by rw [HP.out]; exact hb45.size
          have hb6 : Below p w1 w6 := by rw [hw6]; exact hb45.alloc hpw5 _
          have hb56 : Below w4.heap.size w4 w6 := by rw [hw6]; exact hb5.alloc hb5.size _
          have hk6 : Blk w6 w5.heap.size 44 #[.int .i64 x0, .int .i64 x1, .bool y2, .slice A3 kn c3, .bool y4, .slice A5 vn c5] := by rw [hw6]; exact Blk.new _ _ _
          have hf36 : Fresh w6 w4.heap.size (.slice A3 kn c3) K := by rw [hw6]; exact HF3.out.below ((Below.refl _ _).alloc (Nat.le_refl _) _)
          have hf56 : Fresh w6 w4.heap.size (.slice A5 vn c5) V := by rw [hw6]; exact HF5.out.below ((Below.refl _ _).alloc (Nat.le_refl _) _)
          clear hw6 HF3 HF5 HBKW hb45 hpw5 hb5
          have HF36 := Lib.hid hf36; clear hf36
          have HF56 := Lib.hid hf56; clear hf56
          have HBKW := Lib.hid (HBOX.out w6 hb6)
          have hlt6 : w.heap.size < w6.heap.size := HBKW.out.lt
          have HB6 := Lib.hid hb6; clear hb6
          have hs46 : w4.heap.size ≤ w6.heap.size := hb56.size
          have HB56 := Lib.hid hb56; clear hb56
          cases ok with
          | false =>
            have hnone : dec.first L = none := none_of fun x hx => by
              obtain ⟨b', u'⟩ := x
              obtain ⟨r, r1, r2, r3⟩ := HSTEP.out b' u' hx
              have e1 := HXMF.out.1
              have e2 := HRR.out
              rw [e1, r2] at e2
              rw [r3] at e2
              cases e2
            have HNONE := Lib.hid hnone; clear hnone
            clear hk6
            go_wp2_with (show Go.wpList _ _ _ (⟨_, .store _ (.tmp 2) (.tmp 125), _, _, _, _⟩ :: _) _ _; go_loud (refine wpList_store_row rfl 42 (.tmp 2) (.tmp 125) rfl w.heap.size #[.int .i64 0, .int .i64 0, .int .i64 0, .int .i64 0, .int .i64 0, .slice none 0 0] rfl rfl _ _ HBKW.out bat.info6 rfl (by simp [Value.oneCell']) ?_))
            have hk7 := HBKW.out.row #[.int .i64 0, .int .i64 0, .int .i64 0, .int .i64 0, .int .i64 0, .slice none 0 0]
            (try rw [Exit.noGoto_ret])
            (try simp only [Exit.inBlock, Exit.then])
            refine bodyPost_ret (res_cell2 rfl _ _ _ _ _ rfl hk7 Try.underlying42 rfl bat.info6) rfl ?_
            exact HNO.out _ (HEND.out _ HB6.out) HNONE.out
          | true =>
            have hrr : rr.rec Fs Bs X = some ⟨x0, x1, y2, K, y4, V⟩ := by rw [HRR.out]; rfl
            obtain ⟨hx0, hx1'⟩ := rr.rec_ok hrr
            have HRR2 := Lib.hid (And.intro hrr (And.intro hx0 hx1')); clear hrr hx0 hx1' HRR
            have HBB6 := Lib.hid ((chg_of (P := fun _ => False) HB56.out).blk HBB4.out id)
            have HROW6 := Lib.hid (HROW4.out.below HB56.out)
            have hltb6 : gb < w6.heap.size := by omega
            have p5 : w6.cell? ⟨gb, 5, none⟩ = some (.slice Ar k cr) := HBB6.out.cell 5 rfl
            have g0 : w6.cell? ⟨w5.heap.size, 0, none⟩ = some (.int .i64 x0) := hk6.cell 0 rfl
            have g1 : w6.cell? ⟨w5.heap.size, 1, none⟩ = some (.int .i64 x1) := hk6.cell 1 rfl
            have g2 : w6.cell? ⟨w5.heap.size, 2, none⟩ = some (.bool y2) := hk6.cell 2 rfl
            have g3 : w6.cell? ⟨w5.heap.size, 3, none⟩ = some (.slice A3 kn c3) := hk6.cell 3 rfl
            have g4 : w6.cell? ⟨w5.heap.size, 4, none⟩ = some (.bool y4) := hk6.cell 4 rfl
            have g5 : w6.cell? ⟨w5.heap.size, 5, none⟩ = some (.slice A5 vn c5) := hk6.cell 5 rfl
            clear hk6
            go_upto_region 25 with fail
            have hkey : ∀ (u : Value) (K : List Nat), Fresh w6 w4.heap.size u K → KeyR w6 (gb + 1) (.slice Ar k cr) u K := fun u K h => ⟨h.1, fun g hg => ⟨Nat.le_trans hltb4 (h.2 g hg).1, (h.2 g hg).2, fun hh => by
              obtain ⟨xs, ho, -⟩ := HROW4.out
              have h1 := (ho.lt g hh).2
              have h2 := (h.2 g hg).1
              omega⟩⟩
            have HKEY := Lib.hid hkey; clear hkey
            obtain ⟨i0, hi, hz0, hz1, hz2⟩ := info_parts bat.infoRec
            have HI := Lib.hid (And.intro hi (And.intro hz0 (And.intro hz1 hz2))); clear hi hz0 hz1 hz2
            obtain ⟨w8, hw8⟩ : ∃ w8, w8 = w6.alloc (.cells #[.int .i64 x0, .int .i64 x1, .bool y2, .slice A3 kn c3, .bool y4, .slice A5 vn c5] 44) := ⟨_, rfl⟩
            have hb68 : Below w6.heap.size w6 w8 := by rw [hw8]; exact (Below.refl _ _).alloc (Nat.le_refl _) _
            obtain ⟨xs, hown, hcells⟩ := HROW6.out.below hb68
            have hxl := hown.1
            have hkv : KeyR w8 (gb + 1) (.slice Ar k cr) (.slice A3 kn c3) K := (HKEY.out _ _ HF36.out).chg (P := fun _ => False) (chg_of hb68) fun _ _ _ q => q
            have hvv : KeyR w8 (gb + 1) (.slice Ar k cr) (.slice A5 vn c5) V := (HKEY.out _ _ HF56.out).chg (P := fun _ => False) (chg_of hb68) fun _ _ _ q => q
            have hat8 : At w8 (some ⟨w6.heap.size, 0, none⟩) (1 * 6) (fun j => ([.int .i64 x0, .int .i64 x1, .bool y2, .slice A3 kn c3, .bool y4, .slice A5 vn c5] : List Value).getD j undef) := by
              rw [hw8]
              exact (At.new w6 #[.int .i64 x0, .int .i64 x1, .bool y2, .slice A3 kn c3, .bool y4, .slice A5 vn c5] 44 (n := 1 * 6) rfl).congr fun j hj => by match j, hj with | 0, _ => rfl | 1, _ => rfl | 2, _ => rfl | 3, _ => rfl | 4, _ => rfl | 5, _ => rfl
            have hb8 : Below p w1 w8 := HB6.out.trans (hb68.mono (by rw [HP.out]; exact HB6.out.size))
            have hbb8 : Blk w8 gb 42 #[.int .i64 Bs, .int .i64 (Bs + Ls), .int .i64 Pd, .int .i64 Ep, .int .i64 Sq, .slice Ar k cr] := (chg_of (P := fun _ => False) hb68).blk HBB6.out id
            have hsz8 : gb + 1 ≤ w8.heap.size := by have := hb68.size; omega
            rw [HRL.out] at hown
            have happ : ∀ v2 w9, w9.ownsRow (gb + 1) 44 6 v2 (k + 1) (xs ++ cellsOf (1 * 6) (fun j => ([.int .i64 x0, .int .i64 x1, .bool y2, .slice A3 kn c3, .bool y4, .slice A5 vn c5] : List Value).getD j undef)) → w8.grownBy w9 (Value.slice Ar k cr).ownBlock → Lies w8 (.slice Ar k cr) v2 →
                RowR w9 (gb + 1) v2 (rs ++ [⟨x0, x1, y2, K, y4, V⟩]) ∧ Below p w1 w9 ∧ Blk w9 gb 42 #[.int .i64 Bs, .int .i64 (Bs + Ls), .int .i64 Pd, .int .i64 Ep, .int .i64 Sq, .slice Ar k cr] ∧ ∃ A9 c9, v2 = .slice A9 (k + 1) c9 := fun v2 w9 h1 h2 h3 => by
              refine ⟨RowR.append (r := ⟨x0, x1, y2, K, y4, V⟩) hcells hxl hkv hvv HRR2.out.2.1 HRR2.out.2.2 (by rw [HRL.out]; exact h1) h2 h3, hb8.grown h2 (by rw [HP.out]; exact hb8.size) (fun g hg => ?_), (Chg.grown h2).blk hbb8 (fun hh => ?_), ?_⟩
              · have := (hown.lt g hg).1
                omega
              · have := (hown.lt gb hh).1
                omega
              · obtain ⟨A9, c9, e, -⟩ := own_at h1
                exact ⟨A9, c9, e⟩
            have HAPP := Lib.hid happ; clear happ hcells hxl hkv hvv
            have HOWN := Lib.hid hown; clear hown
            have HAT8 := Lib.hid hat8; clear hat8
            clear hb68 hb8 hbb8
            have HW8 := Lib.hid hw8; clear hw8
            go_upto_region 26 with (at_builtin; go_loud (rw [← HW8.out]; refine wpList_app2 _ rfl (.tmp 127) (.tmp 129) 39 rfl (gb + 1) 44 i0 _ 6 80 Try.underlying39 HI.out.1 HI.out.2.1 HI.out.2.2.1 HI.out.2.2.2 rfl (by decide) _ k xs rfl HOWN.out (some ⟨w6.heap.size, 0, none⟩) 1 1 _ rfl HAT8.out (fun j hj => by match j, hj with | 0, _ => rfl | 1, _ => rfl | 2, _ => rfl | 3, _ => rfl | 4, _ => rfl | 5, _ => rfl) (by unfold maxLen; omega) (by omega) hsz8 ?_; intro v2 w9 h1 h2 h3; have HR9 := Lib.hid (HAPP.out v2 w9 h1 h2 h3); clear h1 h2 h3; obtain ⟨A9, c9, hv9⟩ := HR9.out.2.2.2; subst hv9; have e5 : w9.cell? ⟨gb, 5, none⟩ = some (.slice Ar k cr) := HR9.out.2.2.1.cell 5 rfl; have f5 : w9.frozen? ⟨gb, 5, none⟩ = false := HR9.out.2.2.1.frozen 5))
            clear e5 f5
            obtain ⟨w10, hw10⟩ : ∃ w10, w10 = w9.setCell ⟨gb, 5, none⟩ (.slice A9 (k + 1) c9) := ⟨_, rfl⟩
            rw [← hw10]
            have hch := Chg.setCell w9 gb 5 (.slice A9 (k + 1) c9)
            rw [← hw10] at hch
            have hb10 : Below p w1 w10 := HR9.out.2.1.trans (hch.below (by rw [HP.out]; exact HR9.out.2.1.size) fun k hk => by have hk : k = gb := hk; omega)
            have hbb10 : Blk w10 gb 42 #[.int .i64 Bs, .int .i64 (Bs + Ls), .int .i64 Pd, .int .i64 Ep, .int .i64 Sq, .slice A9 (k + 1) c9] := by rw [hw10]; exact HR9.out.2.2.1.set 5 _
            have hr10 : RowR w10 (gb + 1) (.slice A9 (k + 1) c9) (rs ++ [⟨x0, x1, y2, K, y4, V⟩]) := HR9.out.1.chg hch fun g h1 _ h3 => by have h3 : g = gb := h3; omega
            clear hw10 hch
            have hdn : ∀ b' u', dec.first L = some (b', u') → rs ++ [⟨x0, x1, y2, K, y4, V⟩] = b'.recs.take (k + 1) ∧ M = rr.flat b' (k + 1) := fun b' u' h => by
              obtain ⟨r, r1, r2, r3⟩ := HSTEP.out b' u' h
              have e1 := HXMF.out.1
              have e2 := HXMF.out.2.1
              rw [r2] at e1 e2
              have e3 := HRR2.out.1
              rw [show X = r.rest Fs Bs from e1, r3] at e3
              obtain rfl := Option.some.inj e3
              refine ⟨?_, e2⟩
              rw [(HDK.out b' u' h).1, List.take_add_one, r1]
              rfl
            have HB10 := Lib.hid hb10; clear hb10
            have HBB10 := Lib.hid hbb10; clear hbb10
            have HR10 := Lib.hid hr10; clear hr10
            have HDN := Lib.hid hdn; clear hdn
            go_wp2_with fail
            go_roundg gi
            case measure => omega
            case rel => exact ⟨k + 1, rs ++ [⟨x0, x1, y2, K, y4, V⟩], M, A2', mn, c2, A9, c9, by omega, by go_num, rfl, HMN.out.symm, HPM.out, hm1, by unfold maxLen; omega, by omega, HMB.out, HB10.out, by rw [List.length_append, HRL.out]; rfl, HBB10.out, HR10.out, HDN.out⟩
        · have hnone : dec.first L = none := none_of fun x hx => by
            obtain ⟨b', u'⟩ := x
            obtain ⟨r, r1, r2, r3⟩ := HSTEP.out b' u' hx
            have e1 := HXMF.out.2.2
            rw [r2] at e1
            exact hf0 e1
          have HNONE := Lib.hid hnone; clear hnone
          have hd0 : (f != 0) = true := by simpa using hf0
          go_wp2_with (show Go.wpList _ _ _ (⟨_, .store _ (.tmp 2) (.tmp 115), _, _, _, _⟩ :: _) _ _; go_loud (refine wpList_store_row rfl 42 (.tmp 2) (.tmp 115) rfl w.heap.size #[.int .i64 0, .int .i64 0, .int .i64 0, .int .i64 0, .int .i64 0, .slice none 0 0] rfl rfl _ _ HBKW.out bat.info6 rfl (by simp [Value.oneCell']) ?_))
          have hk7 := HBKW.out.row #[.int .i64 0, .int .i64 0, .int .i64 0, .int .i64 0, .int .i64 0, .slice none 0 0]
          (try rw [Exit.noGoto_ret])
          (try simp only [Exit.inBlock, Exit.then])
          refine bodyPost_ret (res_cell2 rfl _ _ _ _ _ rfl hk7 Try.underlying42 rfl bat.info6) rfl ?_
          exact HNO.out _ (HEND.out _ HB4.out) HNONE.out
end Go.Proofs.Ytahncanmfjmfnaa

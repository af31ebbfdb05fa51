/- The reference of chapter 5: Decode. -/
import Derived.Test.YtahncanmfjmfnaaRrE
namespace Go.Proofs.Ytahncanmfjmfnaa
open Go.RowKit

set_option maxRecDepth 20000 in
set_option maxHeartbeats 2000000 in
theorem ref.decode_any (A : Option Addr) (c : Nat) (L : List Nat) (w : World) (hat : At w A L.length (byteAt L)) (hb : ∀ x ∈ L, x < 256) (hn : L.length ≤ c) (hc : c ≤ maxLen) (hl : L.length ≤ 1000000) :
    Calls Try.prog 20 #[.slice A L.length c] w fun e w' => ((dec.decode L = none ∧ e = .returned (.tuple #[.agg #[.int .i64 0, .int .i64 0, .int .i64 0, .int .i64 0, .int .i64 0, .slice none 0 0], .int .i64 2])) ∨
      (∃ b A' c', dec.decode L = some b ∧ RecsV w' (.slice A' b.recs.length c') b.recs ∧ e = .returned (.tuple #[b.hval A' b.recs.length c', .int .i64 0]))) ∧ Below w.heap.size w w' := by
  have hf := fun wx (h : Below w.heap.size w wx) => ref.first_any A c L.length L wx rfl (hat.below h (Nat.le_refl _)) hb hn hc hl
  have hdn : dec.first L = none → dec.decode L = none := fun h => by unfold dec.decode; rw [h]
  have hds : ∀ b u, dec.first L = some (b, u) → dec.decode L = if u = L.length then some b else none := fun b u h => by unfold dec.decode; rw [h]
  have HDN := Lib.hid hdn; clear hdn
  have HDS := Lib.hid hds; clear hds
  have HF := Lib.hid hf; clear hf hat hb
  unfold maxLen at hc
  generalize L.length = n at *
  go_enter Try.func20, Try.ntmps20
  go_wp2_with fail
  obtain ⟨w1, hw1⟩ : ∃ w1, w1 = w.alloc (.cells #[.int .i64 0, .int .i64 0, .int .i64 0, .int .i64 0, .int .i64 0, .slice none 0 0] 42) := ⟨_, rfl⟩
  try rw [← hw1]
  have hbk : Blk w1 w.heap.size 42 #[.int .i64 0, .int .i64 0, .int .i64 0, .int .i64 0, .int .i64 0, .slice none 0 0] := by rw [hw1]; exact Blk.new _ _ _
  have hb1 : Below w.heap.size w w1 := by rw [hw1]; exact (Below.refl _ w).alloc (Nat.le_refl _) _
  clear hw1
  have hlt1 : w.heap.size < w1.heap.size := hbk.lt
  refine (HF.out w1 hb1).mono ?_
  rintro e w5 ⟨hres, hb2⟩
  have hk5 := (chg_of (P := fun _ => False) hb2).blk hbk id
  have HB5 := Lib.hid (hb1.trans (hb2.mono hb1.size)); clear hb1 hb2 hbk
  have hlt := hk5.lt
  have HK5 := Lib.hid hk5; clear hk5
  have hk6 : ∀ cs, Blk (w5.alloc (.cells cs 42)) w.heap.size 42 #[.int .i64 0, .int .i64 0, .int .i64 0, .int .i64 0, .int .i64 0, .slice none 0 0] := fun cs => (Chg.alloc w5 (.cells cs 42) (fun _ => False)).blk HK5.out id
  have HK6 := Lib.hid hk6; clear hk6
  rcases hres with ⟨hno, rfl⟩ | ⟨b, u, A', c', hyes, hu50, -, hrv, rfl⟩
  · have HNO := Lib.hid (HDN.out hno); clear hno
    go_wp2_with (show Go.wpList _ _ _ (⟨_, .store _ (.tmp 2) (.tmp 19), _, _, _, _⟩ :: _) _ _; go_loud (refine wpList_store_row rfl 42 (.tmp 2) (.tmp 19) rfl w.heap.size #[.int .i64 0, .int .i64 0, .int .i64 0, .int .i64 0, .int .i64 0, .slice none 0 0] rfl rfl _ _ (HK6.out _) bat.info6 rfl (by simp [Value.oneCell']) ?_))
    have hk7 := (HK6.out #[.int .i64 0, .int .i64 0, .int .i64 0, .int .i64 0, .int .i64 0, .slice none 0 0]).row #[.int .i64 0, .int .i64 0, .int .i64 0, .int .i64 0, .int .i64 0, .slice none 0 0]
    have hb6 := HB5.out.alloc HB5.out.size (.cells #[.int .i64 0, .int .i64 0, .int .i64 0, .int .i64 0, .int .i64 0, .slice none 0 0] 42)
    refine bodyPost_ret (res_cell2 rfl _ _ _ _ _ rfl hk7 Try.underlying42 rfl bat.info6) rfl ?_
    exact ⟨.inl ⟨HNO.out, rfl⟩, hb6.trans ((Chg.setRow _ _ _).below hb6.size fun k hk => by have hk : k = w.heap.size := hk; omega)⟩
  · have hd := HDS.out b u hyes
    obtain ⟨nv, hnv⟩ : ∃ nv, nv = b.recs.length := ⟨_, rfl⟩
    have hrv2 := hrv
    unfold Bat.hval
    rw [← hnv] at hrv2 ⊢
    have HNV := Lib.hid hnv; clear hnv hyes hrv
    have HRV := Lib.hid hrv2; clear hrv2
    have hb6 := HB5.out.alloc HB5.out.size (.cells #[.int .i64 b.base, .int .i64 b.last, .int .i64 b.prod, .int .i64 b.epoch, .int .i64 b.seq, .slice A' nv c'] 42)
    have HB6 := Lib.hid hb6; clear hb6
    by_cases hu : u = n
    · subst hu
      rw [if_pos rfl] at hd
      have HD := Lib.hid hd; clear hd
      go_wp2_with (show Go.wpList _ _ _ (⟨_, .store _ (.tmp 2) (.tmp 20), _, _, _, _⟩ :: _) _ _; go_loud (refine wpList_store_row rfl 42 (.tmp 2) (.tmp 20) rfl w.heap.size #[.int .i64 b.base, .int .i64 b.last, .int .i64 b.prod, .int .i64 b.epoch, .int .i64 b.seq, .slice A' nv c'] rfl rfl _ _ (HK6.out _) bat.info6 rfl (by simp [Value.oneCell']) ?_))
      have hk7 := (HK6.out #[.int .i64 b.base, .int .i64 b.last, .int .i64 b.prod, .int .i64 b.epoch, .int .i64 b.seq, .slice A' nv c']).row #[.int .i64 b.base, .int .i64 b.last, .int .i64 b.prod, .int .i64 b.epoch, .int .i64 b.seq, .slice A' nv c']
      refine bodyPost_ret (res_cell2 rfl _ _ _ _ _ rfl hk7 Try.underlying42 rfl bat.info6) rfl ?_
      refine ⟨.inr ⟨b, A', c', HD.out, ?_, ?_⟩, HB6.out.trans ((Chg.setRow _ _ _).below HB6.out.size fun k hk => by have hk : k = w.heap.size := hk; omega)⟩
      · rw [← HNV.out]
        obtain ⟨Av', cv', hveq, hrv⟩ := (HRV.out.chg ((Chg.alloc w5 (.cells #[.int .i64 b.base, .int .i64 b.last, .int .i64 b.prod, .int .i64 b.epoch, .int .i64 b.seq, .slice A' nv c'] 42) (fun k => k = w.heap.size)).trans (Chg.setRow _ w.heap.size _) (fun _ _ h => h)) (fun g h1 _ h3 => by have h3 : g = w.heap.size := h3; omega)).recsV
        rw [← HNV.out] at hveq hrv
        obtain ⟨rfl, rfl⟩ : A' = Av' ∧ c' = cv' := by simpa using hveq
        exact hrv
      · unfold Bat.hval
        rw [← HNV.out]
        rfl
    · have hd2 : ((u : Int) != (n : Int)) = true := by simp; omega
      rw [if_neg hu] at hd
      have HD := Lib.hid hd; clear hd hu
      go_wp2_with (show Go.wpList _ _ _ (⟨_, .store _ (.tmp 2) (.tmp 19), _, _, _, _⟩ :: _) _ _; go_loud (refine wpList_store_row rfl 42 (.tmp 2) (.tmp 19) rfl w.heap.size #[.int .i64 0, .int .i64 0, .int .i64 0, .int .i64 0, .int .i64 0, .slice none 0 0] rfl rfl _ _ (HK6.out _) bat.info6 rfl (by simp [Value.oneCell']) ?_))
      have hk7 := (HK6.out #[.int .i64 b.base, .int .i64 b.last, .int .i64 b.prod, .int .i64 b.epoch, .int .i64 b.seq, .slice A' nv c']).row #[.int .i64 0, .int .i64 0, .int .i64 0, .int .i64 0, .int .i64 0, .slice none 0 0]
      refine bodyPost_ret (res_cell2 rfl _ _ _ _ _ rfl hk7 Try.underlying42 rfl bat.info6) rfl ?_
      exact ⟨.inl ⟨HD.out, rfl⟩, HB6.out.trans ((Chg.setRow _ _ _).below HB6.out.size fun k hk => by have hk : k = w.heap.size := hk; omega)⟩

end Go.Proofs.Ytahncanmfjmfnaa

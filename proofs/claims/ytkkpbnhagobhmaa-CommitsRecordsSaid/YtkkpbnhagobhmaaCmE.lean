/- commits: GenRecord (chapter 18). -/
import Derived.BigQuiet
import Derived.Test.YtkkpbnhagobhmaaCmD
namespace Go.Proofs.Ytkkpbnhagobhmaa
open Go.RowKit
set_option maxRecDepth 20000
def cm.gen (g : ByteArray) (n : Int) : Bool := cm.topic g && decide (0 ≤ n) && decide (n ≤ 1099511627776)
def cm.gmay (g : ByteArray) (n now : Int) : Bool := cm.gen g n && cm.now now
theorem cm.gen_iff (g : ByteArray) (n : Int) : (if cm.topic g = true ∧ 0 ≤ n ∧ n ≤ 1099511627776 then (0 : Int) else 1) = if cm.gen g n = true then 0 else 1 := by
  unfold cm.gen
  by_cases h : cm.topic g = true ∧ 0 ≤ n ∧ n ≤ 1099511627776
  · rw [if_pos h, if_pos (by simp [h])]
  · rw [if_neg h, if_neg (by simpa [and_assoc] using h)]
theorem cm.gen_facts {g : ByteArray} {n : Int} (h : cm.gen g n = true) : g.size ≤ 20 ∧ 0 ≤ n ∧ n ≤ 1099511627776 := by
  unfold cm.gen cm.topic at h
  simp only [Bool.and_eq_true, decide_eq_true_eq] at h
  omega
theorem cm.gkey_byte {g : ByteArray} (hg : g.size ≤ 100) : ∀ x ∈ cm.gkey g, x < 256 := fun x hx => by
  unfold cm.gkey at hx
  rcases List.mem_append.1 hx with h3 | h3
  · exact cm.text_byte _ (by decide) x h3
  · exact cm.text_byte _ hg x h3
theorem cm.genrec_any (g : ByteArray) (n now : Int) (w : World) (h : g.size ≤ maxLen) : Calls Try.prog 25 #[.string g, .int .i64 n, .int .i64 now] w (cm.recPost w (if cm.gmay g n now = true then cm.grec g n now else cm.zero) (if cm.gmay g n now = true then 0 else 1)) := by
  have hck := fun wx => cm.gen_any g n wx h
  rw [cm.gen_iff] at hck
  have hwr := fun (kv : Value) (wx : World) (h0 : cm.gen g n = true) (hk : BytesV wx kv (cm.gkey g)) => have h1 := cm.gen_facts h0; cm.written_any kv (cm.gkey g) n now wx hk (by omega) (by omega)
  have hbyte : cm.gen g n = true → ∀ x ∈ cm.gkey g, x < 256 := fun h0 => have h1 := cm.gen_facts h0; cm.gkey_byte (by omega)
  have c0 : ∀ wB p wx L, WrL wB p p L wx → L.length ≤ 100000 → Calls Try.prog 48 #[.pointer (some ⟨p, 0, none⟩), .string ⟨#[103]⟩] wx fun e w' => e = .returned (.pointer (some ⟨p, 0, none⟩)) ∧ WrL wB p p (L ++ cm.text ⟨#[103]⟩) w' := fun wB p wx L h hl =>
    cm.wr_text h ⟨#[103]⟩ (Nat.le_trans (Nat.add_le_add hl (show (⟨#[103]⟩ : ByteArray).size ≤ 1 by decide)) (by omega))
  have c1 : ∀ wB p wx L, cm.gen g n = true → WrL wB p p L wx → L.length ≤ 100000 → Calls Try.prog 48 #[.pointer (some ⟨p, 0, none⟩), .string g] wx fun e w' => e = .returned (.pointer (some ⟨p, 0, none⟩)) ∧ WrL wB p p (L ++ cm.text g) w' := fun wB p wx L h0 h hl => by
    have h1 := cm.gen_facts h0
    exact cm.wr_text h g (by omega)
  have hl : cm.gen g n = true → (cm.gkey g).length ≤ 1000 := fun h0 => by
    have h1 := cm.gen_facts h0
    have h2 := (cm.text_len g).2
    have h3 : (cm.text ⟨#[103]⟩).length ≤ 11 := (cm.text_len ⟨#[103]⟩).2
    unfold cm.gkey
    rw [List.length_append]
    omega
  have hkk : cm.gkey g = [] ++ cm.text ⟨#[103]⟩ ++ cm.text g := rfl
  have hl0 : (cm.text ⟨#[103]⟩).length ≤ 11 := (cm.text_len ⟨#[103]⟩).2
  obtain ⟨R, hR⟩ : ∃ R : Int, R = if cm.gmay g n now = true then 0 else 1 := ⟨_, rfl⟩
  obtain ⟨X, hX⟩ : ∃ X : Rec, X = if cm.gmay g n now = true then cm.grec g n now else cm.zero := ⟨_, rfl⟩
  rw [← hR, ← hX]
  have hno : cm.gen g n = false → R = 1 ∧ X = cm.zero := fun h => by unfold cm.gmay at hR hX; rw [h] at hR hX; exact ⟨hR, hX⟩
  have hyes : cm.gen g n = true → R = (if cm.now now = true then 0 else 1) ∧ X = (if cm.now now = true then ⟨0, now, true, cm.gkey g, true, num.put n⟩ else cm.zero) := fun h => by unfold cm.gmay at hR hX; rw [h, Bool.true_and] at hR hX; exact ⟨hR, hX⟩
  clear hR hX h
  obtain ⟨ok, hok⟩ : ∃ b, b = cm.gen g n := ⟨_, rfl⟩
  rw [← hok] at hck hwr hbyte hno hyes c1 hl
  clear hok
  obtain ⟨K, hK⟩ : ∃ K, K = cm.gkey g := ⟨_, rfl⟩
  rw [← hK] at hwr hbyte hyes hl hkk
  clear hK
  obtain ⟨x0, hx0⟩ : ∃ K, K = cm.text ⟨#[103]⟩ := ⟨_, rfl⟩
  rw [← hx0] at c0 hkk hl0
  clear hx0
  obtain ⟨x1, hx1⟩ : ∃ K, K = cm.text g := ⟨_, rfl⟩
  rw [← hx1] at c1 hkk
  clear hx1
  obtain ⟨b0, hb0⟩ : ∃ b, b = w.heap.size := ⟨_, rfl⟩
  obtain ⟨w1, hw1⟩ : ∃ w1, w1 = w.alloc (.cells #[.int .i64 0, .int .i64 0, .bool false, .slice none 0 0, .bool false, .slice none 0 0] 37) := ⟨_, rfl⟩
  have hz1 : Blk w1 b0 37 #[.int .i64 0, .int .i64 0, .bool false, .slice none 0 0, .bool false, .slice none 0 0] := by rw [hw1, hb0]; exact Blk.new _ _ _
  have hb1 : Below w.heap.size w w1 := by rw [hw1]; exact (Below.refl _ _).alloc (Nat.le_refl _) _
  obtain ⟨C, hC⟩ : ∃ C : Int, C = if ok = true then 0 else 1 := ⟨_, rfl⟩
  rw [← hC] at hck
  have H := Lib.hid (And.intro hck (And.intro hwr (And.intro hno (And.intro hyes (And.intro hbyte (And.intro c0 (And.intro c1 (And.intro hl (And.intro hkk hl0))))))))); clear hck hwr hno hyes hbyte c0 c1 hl hkk hl0
  have H1 := Lib.hid (And.intro hz1 (And.intro hb1 hb0)); clear hz1 hb1
  go_enter Try.func25, Try.ntmps25
  go_upto_region 1 with fail
  rw [← hw1, ← hb0]
  clear hw1 hb0
  go_wp2_with fail
  refine (H.out.1 w1).mono ?_
  rintro en w2 ⟨rfl, h2⟩
  subst h2
  cases ok with
  | false =>
    obtain rfl : C = 1 := by rw [hC]; rfl
    clear hC
    have HX := Lib.hid (H.out.2.2.1 rfl)
    go_wp2_with (refine wpList_store_row rfl 37 (.tmp 6) (.tmp 15) rfl b0 #[.int .i64 0, .int .i64 0, .bool false, .slice none 0 0, .bool false, .slice none 0 0] rfl rfl 37 _ H1.out.1 cm.info_rec rfl (by simp [Value.oneCell']) ?_)
    have hz3 := H1.out.1.row #[.int .i64 0, .int .i64 0, .bool false, .slice none 0 0, .bool false, .slice none 0 0]
    have hb3 := H1.out.2.1.trans ((Chg.setRow w1 b0 #[.int .i64 0, .int .i64 0, .bool false, .slice none 0 0, .bool false, .slice none 0 0]).below H1.out.2.1.size fun k hk => by have hk : k = b0 := hk; have := H1.out.2.2; omega)
    refine bodyPost_ret (res_cell2 rfl _ _ b0 _ _ rfl hz3 Try.underlying37 rfl cm.info_rec) rfl ?_
    refine ⟨⟨_, by rw [HX.out.1]; rfl, ?_⟩, hb3⟩
    rw [HX.out.2]
    exact cm.zero_v _
  | true =>
    obtain rfl : C = 0 := by rw [hC]; rfl
    clear hC
    have HX := Lib.hid (H.out.2.2.2.1 rfl)
    have HWR := Lib.hid fun kv wx hk => by have h := H.out.2.1 kv wx rfl hk; rw [← HX.out.1, ← HX.out.2] at h; exact h
    have HBY := Lib.hid (H.out.2.2.2.2.1 rfl)
    have HC := Lib.hid (And.intro H.out.2.2.2.2.2.1 fun wB p wx L => H.out.2.2.2.2.2.2.1 wB p wx L rfl)
    have HL := Lib.hid (And.intro (H.out.2.2.2.2.2.2.2.1 rfl) H.out.2.2.2.2.2.2.2.2)
    clear H
    go_upto_region 4 with fail
    obtain ⟨p, hp⟩ : ∃ p, p = w1.heap.size := ⟨_, rfl⟩
    obtain ⟨wB, hwB⟩ : ∃ wB, wB = w1.alloc (.cells #[.slice none 0 0, .bool false] 96) := ⟨_, rfl⟩
    rw [← hwB, ← hp]
    have hwr : WrL wB p p [] wB := by rw [hwB, hp]; exact WrL.start _ rfl
    have hc3B : Chg w1 wB (fun _ => False) := by rw [hwB]; exact Chg.alloc _ _ _
    have hkB := hc3B.blk H1.out.1 fun q => q
    have hbxp : b0 < p := by rw [hp]; exact H1.out.1.lt
    have hbB : Below w.heap.size w wB := H1.out.2.1.trans (hc3B.below H1.out.2.1.size fun _ q => q.elim)
    have hwp : w.heap.size ≤ p := by rw [hp]; exact H1.out.2.1.size
    have HW := Lib.hid (And.intro hkB (And.intro hbxp (And.intro hbB hwp))); clear hkB hbxp hbB hwp hc3B hwB hp
    have H0 := Lib.hid hwr; clear hwr
    go_wp2_with fail
    refine (HC.out.1 wB p _ _ H0.out (by simp)).mono ?_
    rintro en v0 ⟨rfl, h1⟩
    have H1w := Lib.hid h1; clear h1
    go_wp2_with fail
    refine (HC.out.2 wB p _ _ H1w.out (by have := HL.out.2.2; simp only [List.length_append, List.length_nil]; omega)).mono ?_
    rintro en v1 ⟨rfl, h1⟩
    rw [← HL.out.2.1] at h1
    have HD := Lib.hid (And.intro (h1.done (by have := HL.out.1; omega)) h1.2.1); clear h1
    go_wp2_with fail
    refine HD.out.1.mono ?_
    rintro en w3 ⟨⟨kv, rfl, hown⟩, hb3⟩
    have hkv : BytesV w3 kv K := cm.own_bv hown HBY.out
    have hc3 : Chg wB w3 (fun k => p ≤ k) := HD.out.2.trans (chg_of (P := fun _ => False) hb3) fun _ _ q => q.elim
    have hk3 := hc3.blk HW.out.1 (Nat.not_le.2 HW.out.2.1)
    have hb3' : Below w.heap.size w w3 := HW.out.2.2.1.trans (hc3.below HW.out.2.2.1.size fun k q => Nat.le_trans HW.out.2.2.2 q)
    have H3 := Lib.hid (And.intro hkv (And.intro hk3 hb3')); clear hkv hk3 hb3' hc3 hb3 hown
    go_wp2_with fail
    refine (HWR.out kv w3 H3.out.1).mono ?_
    rintro en w4 ⟨⟨v, rfl, hv⟩, h4⟩
    have hz4 := (chg_of (P := fun _ => False) h4).blk H3.out.2.1 fun q => q
    have hb4 := H3.out.2.2.trans (h4.mono H3.out.2.2.size)
    obtain ⟨k, u, rfl, hk, hu⟩ := hv
    obtain ⟨Ak, ck, rfl, hk⟩ := hk
    obtain ⟨Au, cu, rfl, hu⟩ := hu
    obtain ⟨nk, hnk⟩ : ∃ n, n = X.key.length := ⟨_, rfl⟩
    obtain ⟨nu, hnu⟩ : ∃ n, n = X.val.length := ⟨_, rfl⟩
    obtain ⟨xo, hxo⟩ : ∃ n, n = X.off := ⟨_, rfl⟩
    obtain ⟨xt, hxt⟩ : ∃ n, n = X.time := ⟨_, rfl⟩
    obtain ⟨xk, hxk⟩ : ∃ n, n = X.hasKey := ⟨_, rfl⟩
    obtain ⟨xv, hxv⟩ : ∃ n, n = X.hasVal := ⟨_, rfl⟩
    rw [← hnk, ← hnu, ← hxo, ← hxt, ← hxk, ← hxv]
    have H4 := Lib.hid (And.intro hk (And.intro hu (And.intro hb4 (And.intro hz4 (And.intro hnk (And.intro hnu (And.intro hxo (And.intro hxt (And.intro hxk hxv))))))))); clear hk hu hb4 h4 hz4 hnk hnu hxo hxt hxk hxv
    go_wp2_with (refine wpList_store_row rfl 37 (.tmp 6) (.tmp 27) rfl b0 #[.int .i64 xo, .int .i64 xt, .bool xk, .slice Ak nk ck, .bool xv, .slice Au nu cu] rfl rfl 37 _ H4.out.2.2.2.1 cm.info_rec rfl (by simp [Value.oneCell']) ?_)
    have hz4 := H4.out.2.2.2.1
    have hc5 := Chg.setRow w4 b0 #[.int .i64 xo, .int .i64 xt, .bool xk, .slice Ak nk ck, .bool xv, .slice Au nu cu]
    have hz5 := hz4.row #[.int .i64 xo, .int .i64 xt, .bool xk, .slice Ak nk ck, .bool xv, .slice Au nu cu]
    have hno : ∀ (j : Nat) (u : Value) (L : List Nat), (#[.int .i64 0, .int .i64 0, .bool false, .slice none 0 0, .bool false, .slice none 0 0] : Array Value)[j]? = some u → u ≠ byteAt L 0 := fun j u L hj => by
      have hj6 : j < 6 := by
        have := (Array.getElem?_eq_some_iff.1 hj).1
        simpa using this
      unfold byteAt
      rcases (by omega : j = 0 ∨ j = 1 ∨ j = 2 ∨ j = 3 ∨ j = 4 ∨ j = 5) with rfl | rfl | rfl | rfl | rfl | rfl <;> (injection hj with hj; rw [← hj]; intro h; cases h)
    have hk5 := hc5.at' H4.out.1.1 fun hn b off e q => H4.out.1.1.not_blk hn hz4 (fun j u hj => hno j u _ hj) b off e q
    have hu5 := hc5.at' H4.out.2.1.1 fun hn b off e q => H4.out.2.1.1.not_blk hn hz4 (fun j u hj => hno j u _ hj) b off e q
    have hb5 : Below w.heap.size w (w4.setRow b0 #[.int .i64 xo, .int .i64 xt, .bool xk, .slice Ak nk ck, .bool xv, .slice Au nu cu]) := H4.out.2.2.1.trans (hc5.below H4.out.2.2.1.size fun k q => by have q : k = b0 := q; have := H1.out.2.2; omega)
    refine bodyPost_ret (res_cell2 rfl _ _ b0 _ _ rfl hz5 Try.underlying37 rfl cm.info_rec) rfl ?_
    refine ⟨⟨_, rfl, .slice Ak nk ck, .slice Au nu cu, ?_, ?_, ?_⟩, hb5⟩
    · rw [H4.out.2.2.2.2.2.2.1, H4.out.2.2.2.2.2.2.2.1, H4.out.2.2.2.2.2.2.2.2.1, H4.out.2.2.2.2.2.2.2.2.2]
    · exact ⟨Ak, ck, by rw [H4.out.2.2.2.2.1], hk5, H4.out.1.2⟩
    · exact ⟨Au, cu, by rw [H4.out.2.2.2.2.2.1], hu5, H4.out.2.1.2⟩
end Go.Proofs.Ytkkpbnhagobhmaa

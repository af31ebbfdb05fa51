/- proto: what Encode and Answer check, and what Encode writes (PqE, PqF, PqM, PqN; chapter 20). -/
import Derived.BigQuiet
import Derived.Test.YtimcpbbcealkiaaPqO
import Derived.Test.YtimcpbbcealkiaaWrT
import Derived.Test.YtimcpbbcealkiaaWrL
import Derived.Test.YtimcpbbcealkiaaPlanE
import Derived.Deep.CutRange
import Derived.Test.YtimcpbbcealkiaaLmA
namespace Go.Proofs.Ytimcpbbcealkiaa
section
open Go.RowKit
set_option maxRecDepth 20000

/-- Whether a text is too long. -/
def pq.long (l : List ByteArray) : Bool := l.any fun s => decide (100 < s.size)
theorem pq.long1_any (s : ByteArray) (w : World) : Calls Try.prog 54 #[.string s] w fun e w' => e = .returned (.bool (decide (100 < s.size))) ∧ w = w' := by
  by_cases h : 100 < s.size
  · have d0 : decide (100 < (s.size : Int)) = true := decide_eq_true (by omega)
    rw [decide_eq_true h]
    go_enter Try.func54, Try.ntmps54
    go_wp2
    go_ret
    exact ⟨rfl, rfl⟩
  · have d0 : decide (100 < (s.size : Int)) = false := decide_eq_false (by omega)
    rw [decide_eq_false h]
    go_enter Try.func54, Try.ntmps54
    go_wp2
    go_ret
    exact ⟨rfl, rfl⟩
theorem pq.index_any (l : List ByteArray) (A : Option Addr) (c : Nat) (w : World) (h : At w A l.length (fun j => .string (l.getD j ByteArray.empty))) (hl : l.length ≤ maxLen) :
    Calls Try.prog 74 #[.slice A l.length c, .func (.func 54) #[] #[]] w fun e w' => (∃ r : Int, e = .returned (.int .i64 r) ∧ decide (0 ≤ r) = pq.long l) ∧ Below w.heap.size w w' := by
  unfold maxLen at hl
  have hno : (∀ (i : Nat) (s : ByteArray), l[i]? = some s → ¬ 100 < s.size) → pq.long l = false := fun h => by
    unfold pq.long
    rw [List.any_eq_false]
    intro s hs
    obtain ⟨i, hi⟩ := List.mem_iff_getElem?.1 hs
    simpa using h i s hi
  have hyes : ∀ (i : Nat) (s : ByteArray), l[i]? = some s → 100 < s.size → pq.long l = true := fun i s hi hs => by
    unfold pq.long
    rw [List.any_eq_true]
    exact ⟨s, List.mem_of_getElem? hi, decide_eq_true hs⟩
  obtain ⟨n, hn⟩ : ∃ n, n = l.length := ⟨_, rfl⟩
  rw [← hn] at h hl ⊢
  have H := Lib.hid (And.intro h (And.intro hno (And.intro hyes hn))); clear h hno hyes hn
  go_enter Try.func74, Try.ntmps74
  go_wp2_with fail
  go_loopw [8] (fun i wr => ∃ j : Nat, j ≤ n ∧ i = .int .i64 (j : Int) ∧ (∀ (i : Nat) (s : ByteArray), l[i]? = some s → i < j → ¬ 100 < s.size) ∧ w = wr) (fun i _ => n - (intOf i).toNat)
  case atStart => exact ⟨0, by omega, rfl, fun _ _ _ h => by omega, rfl⟩
  case round =>
    obtain ⟨j, hj, rfl, hq, rfl⟩ := hrel
    have HQ := Lib.hid hq; clear hq
    by_cases hlt : j < n
    · have hlt' : (j : Int) < (n : Int) := by omega
      obtain ⟨s, hs⟩ : ∃ s, l[j]? = some s := ⟨_, List.getElem?_eq_getElem (by have := H.out.2.2.2; omega)⟩
      obtain ⟨b, off, rfl, hb, hc⟩ := H.out.1 (by omega)
      have c0 : w.cell? ⟨b, off + j, none⟩ = some (.string s) := by rw [hc j hlt]; simp [List.getD, hs]
      clear hc
      have HS := Lib.hid hs; clear hs
      by_cases hbig : 100 < s.size
      · have hl1 := pq.long1_any s w
        rw [decide_eq_true hbig] at hl1
        have HF := Lib.hid (And.intro hl1 (H.out.2.2.1 j s HS.out hbig)); clear hl1 hbig
        go_wp2_with (go_at_call 54; refine HF.out.1.mono ?_; rintro e w2 ⟨rfl, h2⟩; subst h2)
        go_ret
        exact ⟨⟨_, rfl, by rw [HF.out.2]; exact decide_eq_true (by omega)⟩, Below.refl _ _⟩
      · have hl1 := pq.long1_any s w
        rw [decide_eq_false hbig] at hl1
        have hq2 : ∀ (i : Nat) (s : ByteArray), l[i]? = some s → i < j + 1 → ¬ 100 < s.size := fun i x hx hi => by
          rcases Nat.lt_or_ge i j with h' | h'
          · exact HQ.out i x hx h'
          · obtain rfl : i = j := by omega
            rw [HS.out] at hx
            cases hx
            exact hbig
        have HF := Lib.hid (And.intro hl1 hq2); clear hl1 hbig hq2
        go_wp2_with (go_at_call 54; refine HF.out.1.mono ?_; rintro e w2 ⟨rfl, h2⟩; subst h2)
        exact ⟨⟨j + 1, by omega, by go_num, HF.out.2, by first | rfl | trivial⟩, by simp [intOf]; omega⟩
    · obtain rfl : n = j := by omega
      have hf := H.out.2.1 fun i s hs => HQ.out i s hs (by have := (List.getElem?_eq_some_iff.1 hs).1; have := H.out.2.2.2; omega)
      have HF := Lib.hid hf; clear hf hlt
      go_wp2_with fail
      go_ret
      exact ⟨⟨_, rfl, by rw [HF.out]; rfl⟩, Below.refl _ _⟩
theorem pq.contains_any (l : List ByteArray) (A : Option Addr) (c : Nat) (w : World) (h : At w A l.length (fun j => .string (l.getD j ByteArray.empty))) (hl : l.length ≤ maxLen) :
    Calls Try.prog 53 #[.slice A l.length c, .func (.func 54) #[] #[]] w fun e w' => e = .returned (.bool (pq.long l)) ∧ Below w.heap.size w w' := by
  have HI := Lib.hid (pq.index_any l A c w h hl)
  clear h
  go_enter Try.func53, Try.ntmps53
  go_wp2_with (go_at_call 74; refine HI.out.mono ?_; rintro e w2 ⟨⟨r, rfl, h1⟩, h2⟩; have HR := Lib.hid (And.intro h1 h2); clear h1 h2)
  go_ret
  exact ⟨by rw [← HR.out.1]; rfl, HR.out.2⟩
theorem pq.long_any (l : List ByteArray) (A : Option Addr) (c : Nat) (w : World) (h : At w A l.length (fun j => .string (l.getD j ByteArray.empty))) (hl : l.length ≤ maxLen) :
    Calls Try.prog 26 #[.slice A l.length c] w fun e w' => e = .returned (.bool (pq.long l)) ∧ Below w.heap.size w w' := by
  have HI := Lib.hid (pq.contains_any l A c w h hl)
  clear h
  obtain ⟨r, hr⟩ : ∃ r, r = pq.long l := ⟨_, rfl⟩
  rw [← hr] at HI ⊢
  clear hr
  go_enter Try.func26, Try.ntmps26
  go_wp2_with (go_at_call 53; refine HI.out.mono ?_; rintro e w2 ⟨rfl, h2⟩; have HR := Lib.hid h2; clear h2)
  go_ret
  exact ⟨rfl, HR.out⟩
/-- A text, written. -/
def pq.text (s : ByteArray) : List Nat := num.put s.size ++ strNats s
theorem pq.text_len (s : ByteArray) : s.size + 1 ≤ (pq.text s).length ∧ (pq.text s).length ≤ s.size + 10 := by
  have := num.put_bd (s.size : Int)
  unfold pq.text
  rw [List.length_append, strNats_len]
  omega
theorem WrL.text {w3 w : World} {B p : Nat} {L : List Nat} (h : WrL w3 B p L w) (s : ByteArray) (hL : L.length + s.size ≤ 70368744177000) :
    Calls Try.prog 28 #[.pointer (some ⟨p, 0, none⟩), .string s] w fun e w' => e = .returned (.pointer (some ⟨p, 0, none⟩)) ∧ WrL w3 B p (L ++ pq.text s) w' := by
  obtain ⟨⟨v, q1⟩, q2, q3⟩ := h
  refine (wire.text_any B p v L false s w q1 (by omega)).mono ?_
  rintro e w' ⟨rfl, hd⟩
  refine ⟨rfl, ?_⟩
  unfold pq.text
  rw [← List.append_assoc]
  exact WrL.post q1 q2 q3 hd
def pq.texts (l : List ByteArray) : List Nat := (l.map pq.text).flatten
theorem pq.texts_succ {l : List ByteArray} {j : Nat} {s : ByteArray} (h : l[j]? = some s) : pq.texts (l.take (j + 1)) = pq.texts (l.take j) ++ pq.text s := by
  unfold pq.texts
  rw [List.take_add_one, h]
  simp
theorem pq.texts_len : ∀ (l : List ByteArray), (∀ s ∈ l, s.size ≤ 1000000) → (pq.texts l).length ≤ l.length * 1000010
  | [], _ => by simp [pq.texts]
  | s :: l, h => by
    have h1 := pq.texts_len l fun x hx => h x (by simp [hx])
    have h2 := (pq.text_len s).2
    have h3 := h s (by simp)
    show (pq.text s ++ pq.texts l).length ≤ _
    rw [List.length_append, List.length_cons]
    omega
theorem pq.writes_any {w3 w : World} {B p : Nat} {L : List Nat} (h : WrL w3 B p L w) (l : List ByteArray) (A : Option Addr) (c : Nat) (hat : At w3 A l.length (fun j => .string (l.getD j ByteArray.empty))) (hx : 0 < l.length → ∀ b off, A = some ⟨b, off, none⟩ → b < B) (hl : l.length ≤ 1000) (hs : ∀ s ∈ l, s.size ≤ 1000000) (hL : L.length ≤ 1000000000) :
    Calls Try.prog 30 #[.pointer (some ⟨p, 0, none⟩), .slice A l.length c] w fun e w' => e = .returned (.tuple #[]) ∧ WrL w3 B p (L ++ num.put l.length ++ pq.texts l) w' := by
  obtain ⟨n, hn⟩ : ∃ n, n = l.length := ⟨_, rfl⟩
  rw [← hn] at hat hx hl ⊢
  have hpb := num.put_bd (n : Int)
  have hnum := h.num (by omega) (n : Int) (by omega) (by omega)
  have H := Lib.hid (And.intro hat (And.intro hx (And.intro hs (And.intro hn hnum)))); clear hat hx hs hn hnum h
  go_enter Try.func30, Try.ntmps30
  go_wp2_with (go_at_call 29; refine H.out.2.2.2.2.mono ?_; rintro e w4 ⟨rfl, h1⟩; have H4 := Lib.hid h1; clear h1)
  go_loopw [12] (fun i wr => ∃ j : Nat, j ≤ n ∧ i = .int .i64 (j : Int) ∧ WrL w3 B p (L ++ num.put n ++ pq.texts (l.take j)) wr) (fun i _ => n - (intOf i).toNat)
  case atStart => exact ⟨0, by omega, rfl, by rw [show pq.texts (l.take 0) = [] from rfl, List.append_nil]; exact H4.out⟩
  case round =>
    obtain ⟨j, hj, rfl, hwr⟩ := hrel
    by_cases hlt : j < n
    · have hlt' : (j : Int) < (n : Int) := by omega
      obtain ⟨s, hsj⟩ : ∃ s, l[j]? = some s := ⟨_, List.getElem?_eq_getElem (by have := H.out.2.2.2.1; omega)⟩
      have hatr := hwr.2.1.at' H.out.1 fun hp b off hA hB => by have := H.out.2.1 hp b off hA; omega
      obtain ⟨b, off, rfl, hb, hc⟩ := hatr (by omega)
      have c0 : wr.cell? ⟨b, off + j, none⟩ = some (.string s) := by rw [hc j hlt]; simp [List.getD, hsj]
      clear hc hatr
      have hlen : (pq.texts (l.take j)).length ≤ 1000010000 := by
        have h1 := pq.texts_len (l.take j) fun x hx => H.out.2.2.1 x (List.mem_of_mem_take hx)
        have h2 : (l.take j).length ≤ 1000 := by rw [List.length_take]; omega
        omega
      have hss := H.out.2.2.1 s (List.mem_of_getElem? hsj)
      have htx := hwr.text s (by rw [List.length_append, List.length_append]; omega)
      rw [List.append_assoc (L ++ num.put n), ← pq.texts_succ hsj] at htx
      have HT := Lib.hid htx; clear htx hwr hlen hss hsj
      go_wp2_with (go_at_call 28; refine HT.out.mono ?_; rintro e w5 ⟨rfl, h1⟩; have H5 := Lib.hid h1; clear h1)
      exact ⟨⟨j + 1, by omega, by go_num, H5.out⟩, by simp [intOf]; omega⟩
    · obtain rfl : n = j := by omega
      rw [List.take_of_length_le (by have := H.out.2.2.2.1; omega)] at hwr
      have HW := Lib.hid hwr; clear hwr hlt
      go_wp2_with fail
      go_end0
      exact ⟨rfl, HW.out⟩
end
section
open Go.RowKit
set_option maxRecDepth 20000

/-- The error that a request has. -/
def pq.check (r : PReq) : Int := if r.kind < 1 ∨ 14 < r.kind then 16 else if r.corr < 0 ∨ 2147483647 < r.corr then 1 else if pq.long [r.client, r.topic, r.group, r.member] = true ∨ 30 < r.names.length ∨ pq.long r.names = true ∨ 65536 < r.data.length then 3 else 0
/-- Its bytes. -/
def pq.bytes (r : PReq) : List Nat := [] ++ wire.be r.kind.toNat 2 ++ wire.be r.corr.toNat 4 ++ pq.text r.client ++ pq.text r.topic ++ num.put r.part ++ num.put r.off ++ num.put r.time ++ num.put r.most ++ pq.text r.group ++ pq.text r.member ++ num.put r.gen ++ num.put r.names.length ++ pq.texts r.names ++ num.put r.data.length ++ r.data
theorem pq.long_no {l : List ByteArray} (h : pq.long l = false) : ∀ s ∈ l, s.size ≤ 100 := fun s hs => by
  unfold pq.long at h
  rw [List.any_eq_false] at h
  have := h s hs
  simpa using this
theorem pq.check_ok {r : PReq} (h : pq.check r = 0) : (1 ≤ r.kind ∧ r.kind ≤ 14) ∧ (0 ≤ r.corr ∧ r.corr ≤ 2147483647) ∧ pq.long [r.client, r.topic, r.group, r.member] = false ∧ r.names.length ≤ 30 ∧ pq.long r.names = false ∧ r.data.length ≤ 65536 := by
  unfold pq.check at h
  split at h
  · cases h
  · split at h
    · cases h
    · split at h
      · cases h
      · rename_i h1 h2 h3
        refine ⟨by omega, by omega, ?_, ?_, ?_, ?_⟩
        · exact Bool.eq_false_iff.2 fun e => h3 (.inl e)
        · exact Nat.le_of_not_lt fun e => h3 (.inr (.inl e))
        · exact Bool.eq_false_iff.2 fun e => h3 (.inr (.inr (.inl e)))
        · exact Nat.le_of_not_lt fun e => h3 (.inr (.inr (.inr e)))
theorem pq.at_four (w : World) (a b c d : ByteArray) (t : TypeId) : At (w.alloc (.cells #[.string a, .string b, .string c, .string d] t)) (some ⟨w.heap.size, 0, none⟩) 4 (fun j => .string ([a, b, c, d].getD j ByteArray.empty)) :=
  (At.new w #[.string a, .string b, .string c, .string d] t (fr := (0, 0)) (n := 4) rfl).congr fun j hj => by
    have hj' : j = 0 ∨ j = 1 ∨ j = 2 ∨ j = 3 := by omega
    rcases hj' with rfl | rfl | rfl | rfl <;> rfl

set_option maxHeartbeats 8000000 in
theorem pq.encode_ok (r : PReq) (An : Option Addr) (cn : Nat) (Ad : Option Addr) (cd : Nat) (w : World) (h : ReqV w An cn Ad cd r) (hck : pq.check r = 0) :
    Calls Try.prog 10 #[.agg (r.cells An cn Ad cd)] w fun e w' => (∃ v, e = .returned (.tuple #[v, .int .i64 0]) ∧ w'.ownsRow w.heap.size 5 1 v (pq.bytes r).length (u8s (pq.bytes r))) ∧ Below w.heap.size w w' := by
  obtain ⟨⟨hk1, hk2⟩, ⟨hr1, hr2⟩, hl4, hn30, hln, hd6⟩ := pq.check_ok hck
  obtain ⟨⟨⟨-, -, ip, io, it, im, ig⟩, -⟩, hnv, hdv⟩ := h
  unfold pq.int at ip io it im ig
  obtain ⟨A1, c1, e1, hat, hac, hacm, -⟩ := hnv
  obtain ⟨rfl, rfl⟩ : An = A1 ∧ cn = c1 := by injection e1 with q1 q2 q3; exact ⟨q1, q3⟩
  obtain ⟨A2, c2, e2, hbt, hbc, hbcm, hby⟩ := hdv
  obtain ⟨rfl, rfl⟩ : Ad = A2 ∧ cd = c2 := by injection e2 with q1 q2 q3; exact ⟨q1, q3⟩
  clear e1 e2 hck
  have hs4 := pq.long_no hl4
  have hsn := pq.long_no hln
  obtain ⟨L, hL⟩ : ∃ L, L = pq.bytes r := ⟨_, rfl⟩
  rw [← hL]
  unfold pq.bytes at hL
  obtain ⟨x0, hx0⟩ : ∃ x, x = wire.be r.kind.toNat 2 := ⟨_, rfl⟩
  obtain ⟨x1, hx1⟩ : ∃ x, x = wire.be r.corr.toNat 4 := ⟨_, rfl⟩
  obtain ⟨x2, hx2⟩ : ∃ x, x = pq.text r.client := ⟨_, rfl⟩
  obtain ⟨x3, hx3⟩ : ∃ x, x = pq.text r.topic := ⟨_, rfl⟩
  obtain ⟨x4, hx4⟩ : ∃ x, x = num.put r.part := ⟨_, rfl⟩
  obtain ⟨x5, hx5⟩ : ∃ x, x = num.put r.off := ⟨_, rfl⟩
  obtain ⟨x6, hx6⟩ : ∃ x, x = num.put r.time := ⟨_, rfl⟩
  obtain ⟨x7, hx7⟩ : ∃ x, x = num.put r.most := ⟨_, rfl⟩
  obtain ⟨x8, hx8⟩ : ∃ x, x = pq.text r.group := ⟨_, rfl⟩
  obtain ⟨x9, hx9⟩ : ∃ x, x = pq.text r.member := ⟨_, rfl⟩
  obtain ⟨x10, hx10⟩ : ∃ x, x = num.put r.gen := ⟨_, rfl⟩
  have s2 := hs4 r.client (by simp)
  have s3 := hs4 r.topic (by simp)
  have s8 := hs4 r.group (by simp)
  have s9 := hs4 r.member (by simp)
  have l0 : x0.length ≤ 200 := by rw [hx0, wire.be_len]; omega
  have l1 : x1.length ≤ 200 := by rw [hx1, wire.be_len]; omega
  have l2 : x2.length ≤ 200 := by rw [hx2]; have := (pq.text_len r.client).2; omega
  have l3 : x3.length ≤ 200 := by rw [hx3]; have := (pq.text_len r.topic).2; omega
  have l4 : x4.length ≤ 200 := by rw [hx4]; have := (num.put_bd r.part).2; omega
  have l5 : x5.length ≤ 200 := by rw [hx5]; have := (num.put_bd r.off).2; omega
  have l6 : x6.length ≤ 200 := by rw [hx6]; have := (num.put_bd r.time).2; omega
  have l7 : x7.length ≤ 200 := by rw [hx7]; have := (num.put_bd r.most).2; omega
  have l8 : x8.length ≤ 200 := by rw [hx8]; have := (pq.text_len r.group).2; omega
  have l9 : x9.length ≤ 200 := by rw [hx9]; have := (pq.text_len r.member).2; omega
  have l10 : x10.length ≤ 200 := by rw [hx10]; have := (num.put_bd r.gen).2; omega
  rw [← hx0, ← hx1, ← hx2, ← hx3, ← hx4, ← hx5, ← hx6, ← hx7, ← hx8, ← hx9, ← hx10] at hL
  have HLEN := Lib.hid (And.intro l0 (And.intro l1 (And.intro l2 (And.intro l3 (And.intro l4 (And.intro l5 (And.intro l6 (And.intro l7 (And.intro l8 (And.intro l9 l10))))))))))
  clear l0 l1 l2 l3 l4 l5 l6 l7 l8 l9 l10
  have hfix0 : wire.fit r.kind 2 = true := by unfold wire.fit; simp; omega
  have hfix1 : wire.fit r.corr 4 = true := by unfold wire.fit; simp; omega
  have c0 : ∀ wB p wx L, WrL wB p p L wx → L.length ≤ 100000 → Calls Try.prog 27 #[.pointer (some ⟨p, 0, none⟩), .int .i64 r.kind, .int .i64 2] wx fun e w' => e = .returned (.pointer (some ⟨p, 0, none⟩)) ∧ WrL wB p p (L ++ x0) w' := fun wB p wx L h hl => by
    rw [hx0]
    exact h.fixed (by omega) r.kind 2 (by omega) (by omega) (by omega) hfix0 (by omega)
  have c1 : ∀ wB p wx L, WrL wB p p L wx → L.length ≤ 100000 → Calls Try.prog 27 #[.pointer (some ⟨p, 0, none⟩), .int .i64 r.corr, .int .i64 4] wx fun e w' => e = .returned (.pointer (some ⟨p, 0, none⟩)) ∧ WrL wB p p (L ++ x1) w' := fun wB p wx L h hl => by
    rw [hx1]
    exact h.fixed (by omega) r.corr 4 (by omega) (by omega) (by omega) hfix1 (by omega)
  have c2 : ∀ wB p wx L, WrL wB p p L wx → L.length ≤ 100000 → Calls Try.prog 28 #[.pointer (some ⟨p, 0, none⟩), .string r.client] wx fun e w' => e = .returned (.pointer (some ⟨p, 0, none⟩)) ∧ WrL wB p p (L ++ x2) w' := fun wB p wx L h hl => by
    rw [hx2]
    exact h.text r.client (by omega)
  have c3 : ∀ wB p wx L, WrL wB p p L wx → L.length ≤ 100000 → Calls Try.prog 28 #[.pointer (some ⟨p, 0, none⟩), .string r.topic] wx fun e w' => e = .returned (.pointer (some ⟨p, 0, none⟩)) ∧ WrL wB p p (L ++ x3) w' := fun wB p wx L h hl => by
    rw [hx3]
    exact h.text r.topic (by omega)
  have c4 : ∀ wB p wx L, WrL wB p p L wx → L.length ≤ 100000 → Calls Try.prog 29 #[.pointer (some ⟨p, 0, none⟩), .int .i64 r.part] wx fun e w' => e = .returned (.pointer (some ⟨p, 0, none⟩)) ∧ WrL wB p p (L ++ x4) w' := fun wB p wx L h hl => by
    rw [hx4]
    exact h.num (by omega) r.part (by omega) (by omega)
  have c5 : ∀ wB p wx L, WrL wB p p L wx → L.length ≤ 100000 → Calls Try.prog 29 #[.pointer (some ⟨p, 0, none⟩), .int .i64 r.off] wx fun e w' => e = .returned (.pointer (some ⟨p, 0, none⟩)) ∧ WrL wB p p (L ++ x5) w' := fun wB p wx L h hl => by
    rw [hx5]
    exact h.num (by omega) r.off (by omega) (by omega)
  have c6 : ∀ wB p wx L, WrL wB p p L wx → L.length ≤ 100000 → Calls Try.prog 29 #[.pointer (some ⟨p, 0, none⟩), .int .i64 r.time] wx fun e w' => e = .returned (.pointer (some ⟨p, 0, none⟩)) ∧ WrL wB p p (L ++ x6) w' := fun wB p wx L h hl => by
    rw [hx6]
    exact h.num (by omega) r.time (by omega) (by omega)
  have c7 : ∀ wB p wx L, WrL wB p p L wx → L.length ≤ 100000 → Calls Try.prog 29 #[.pointer (some ⟨p, 0, none⟩), .int .i64 r.most] wx fun e w' => e = .returned (.pointer (some ⟨p, 0, none⟩)) ∧ WrL wB p p (L ++ x7) w' := fun wB p wx L h hl => by
    rw [hx7]
    exact h.num (by omega) r.most (by omega) (by omega)
  have c8 : ∀ wB p wx L, WrL wB p p L wx → L.length ≤ 100000 → Calls Try.prog 28 #[.pointer (some ⟨p, 0, none⟩), .string r.group] wx fun e w' => e = .returned (.pointer (some ⟨p, 0, none⟩)) ∧ WrL wB p p (L ++ x8) w' := fun wB p wx L h hl => by
    rw [hx8]
    exact h.text r.group (by omega)
  have c9 : ∀ wB p wx L, WrL wB p p L wx → L.length ≤ 100000 → Calls Try.prog 28 #[.pointer (some ⟨p, 0, none⟩), .string r.member] wx fun e w' => e = .returned (.pointer (some ⟨p, 0, none⟩)) ∧ WrL wB p p (L ++ x9) w' := fun wB p wx L h hl => by
    rw [hx9]
    exact h.text r.member (by omega)
  have c10 : ∀ wB p wx L, WrL wB p p L wx → L.length ≤ 100000 → Calls Try.prog 29 #[.pointer (some ⟨p, 0, none⟩), .int .i64 r.gen] wx fun e w' => e = .returned (.pointer (some ⟨p, 0, none⟩)) ∧ WrL wB p p (L ++ x10) w' := fun wB p wx L h hl => by
    rw [hx10]
    exact h.num (by omega) r.gen (by omega) (by omega)
  have HC := Lib.hid (And.intro c0 (And.intro c1 (And.intro c2 (And.intro c3 (And.intro c4 (And.intro c5 (And.intro c6 (And.intro c7 (And.intro c8 (And.intro c9 c10))))))))))
  clear c0 c1 c2 c3 c4 c5 c6 c7 c8 c9 c10 hx0 hx1 hx2 hx3 hx4 hx5 hx6 hx7 hx8 hx9 hx10 hfix0 hfix1 s2 s3 s8 s9 hs4
  obtain ⟨nn, hnn⟩ : ∃ n, n = r.names.length := ⟨_, rfl⟩
  obtain ⟨nd, hnd⟩ : ∃ n, n = r.data.length := ⟨_, rfl⟩
  unfold PReq.cells
  rw [← hnn, ← hnd]
  rw [← hnn] at hn30 hat hac
  rw [← hnd] at hd6 hbt hbc
  rw [← hnn, ← hnd] at hL
  obtain ⟨bx, hbx⟩ : ∃ b, b = w.heap.size := ⟨_, rfl⟩
  obtain ⟨w1, hw1⟩ : ∃ w1, w1 = w.alloc (.cells #[.int .i64 r.kind, .int .i64 r.corr, .string r.client, .string r.topic, .int .i64 r.part, .int .i64 r.off, .int .i64 r.time, .int .i64 r.most, .string r.group, .string r.member, .int .i64 r.gen, .slice An nn cn, .slice Ad nd cd] 25) := ⟨_, rfl⟩
  have hk1' : Blk w1 bx 25 #[.int .i64 r.kind, .int .i64 r.corr, .string r.client, .string r.topic, .int .i64 r.part, .int .i64 r.off, .int .i64 r.time, .int .i64 r.most, .string r.group, .string r.member, .int .i64 r.gen, .slice An nn cn, .slice Ad nd cd] := by rw [hw1, hbx]; exact Blk.new _ _ _
  have hb1 : Below w.heap.size w w1 := by rw [hw1]; exact (Below.refl _ _).alloc (Nat.le_refl _) _
  have HA := Lib.hid (And.intro hat (And.intro hbt (And.intro hsn (And.intro hL (And.intro hnn (And.intro hnd (And.intro hb1 (And.intro hk1' hbx)))))))); clear hat hbt hsn hL hnn hnd hb1

  have y0 := hk1'.cell 0 (v := .int .i64 r.kind) rfl
  have y1 := hk1'.cell 1 (v := .int .i64 r.corr) rfl
  have y2 := hk1'.cell 2 (v := .string r.client) rfl
  have y3 := hk1'.cell 3 (v := .string r.topic) rfl
  have y4 := hk1'.cell 4 (v := .int .i64 r.part) rfl
  have y5 := hk1'.cell 5 (v := .int .i64 r.off) rfl
  have y6 := hk1'.cell 6 (v := .int .i64 r.time) rfl
  have y7 := hk1'.cell 7 (v := .int .i64 r.most) rfl
  have y8 := hk1'.cell 8 (v := .string r.group) rfl
  have y9 := hk1'.cell 9 (v := .string r.member) rfl
  have y10 := hk1'.cell 10 (v := .int .i64 r.gen) rfl
  have y11 := hk1'.cell 11 (v := .slice An nn cn) rfl
  have y12 := hk1'.cell 12 (v := .slice Ad nd cd) rfl
  have yl := hk1'.lt
  clear hk1'
  have d0 : decide (r.kind < 1) = false := decide_eq_false (by omega)
  have d1 : decide (14 < r.kind) = false := decide_eq_false (by omega)
  have d2 : decide (r.corr < 0) = false := decide_eq_false (by omega)
  have d3 : decide (2147483647 < r.corr) = false := decide_eq_false (by omega)
  go_enter Try.func10, Try.ntmps10
  go_upto_region 1 with fail
  rw [← hw1, ← hbx]
  clear hw1 hbx
  go_upto_region 5 with fail
  have hlong := pq.long_any [r.client, r.topic, r.group, r.member] (some ⟨w1.heap.size, 0, none⟩) 4 (w1.alloc (.cells #[.string r.client, .string r.topic, .string r.group, .string r.member] 9)) (pq.at_four w1 _ _ _ _ _) (by unfold maxLen; simp)
  rw [hl4] at hlong
  have HLONG := Lib.hid hlong; clear hlong hl4
  go_upto_region 6 with (go_at_call 26; refine HLONG.out.mono ?_; rintro e w2 ⟨rfl, h1⟩; have H2 := Lib.hid h1; clear h1)
  have hb12 : Below w1.heap.size w1 w2 := ((Below.refl w1.heap.size w1).alloc (Nat.le_refl _) _).trans (H2.out.mono (by rw [World.size_alloc]; omega))
  have hk2' := (chg_of (P := fun _ => False) hb12).blk HA.out.2.2.2.2.2.2.2.1 fun q => q
  have HB2 := Lib.hid (And.intro hb12 hk2'); clear hb12 hk2' d0 d1 d2 d3
  clear y0 y1 y2 y3 y4 y5 y6 y7 y8 y9 y10 y11 y12 yl
  have y11 := HB2.out.2.cell 11 (v := .slice An nn cn) rfl
  have y12 := HB2.out.2.cell 12 (v := .slice Ad nd cd) rfl
  have yl := HB2.out.2.lt
  have e0 : decide (30 < nn) = false := decide_eq_false (by omega)
  have e0' : decide (30 < (nn : Int)) = false := decide_eq_false (by omega)
  have e1 : decide (65536 < nd) = false := decide_eq_false (by omega)
  have e1' : decide (65536 < (nd : Int)) = false := decide_eq_false (by omega)
  have hlong2 := pq.long_any r.names An cn w2 (by rw [← HA.out.2.2.2.2.1]; exact HA.out.1.below (HA.out.2.2.2.2.2.2.1.trans (HB2.out.1.mono HA.out.2.2.2.2.2.2.1.size)) (Nat.le_refl _)) (by rw [← HA.out.2.2.2.2.1]; unfold maxLen; omega)
  rw [hln, ← HA.out.2.2.2.2.1] at hlong2
  have HLONG2 := Lib.hid hlong2; clear hlong2 hln
  go_upto_region 8 with (go_at_call 26; refine HLONG2.out.mono ?_; rintro e w3 ⟨rfl, h1⟩; have H3 := Lib.hid h1; clear h1)
  clear y11 y12 yl
  have hk3' := (chg_of (P := fun _ => False) H3.out).blk HB2.out.2 fun q => q
  have HB3 := Lib.hid hk3'; clear hk3'
  have y12 := HB3.out.cell 12 (v := .slice Ad nd cd) rfl
  have yl := HB3.out.lt
  go_upto_region 11 with fail
  clear y12 yl e0 e0' e1 e1'
  obtain ⟨p, hp⟩ : ∃ p, p = w3.heap.size := ⟨_, rfl⟩
  obtain ⟨wB, hwB⟩ : ∃ wB, wB = w3.alloc (.cells #[.slice none 0 0, .bool false] 59) := ⟨_, rfl⟩
  rw [← hwB, ← hp]
  have hwr : WrL wB p p [] wB := by rw [hwB, hp]; exact WrL.start _ rfl
  have hc3B : Chg w3 wB (fun _ => False) := by rw [hwB]; exact Chg.alloc _ _ _
  have hkB := hc3B.blk HB3.out fun q => q
  have hbxp : bx < p := by rw [hp]; exact HB3.out.lt
  have hbB : Below w.heap.size w wB := ((HA.out.2.2.2.2.2.2.1.trans (HB2.out.1.mono HA.out.2.2.2.2.2.2.1.size)).trans (H3.out.mono (Nat.le_trans HA.out.2.2.2.2.2.2.1.size HB2.out.1.size))).trans (hc3B.below (Nat.le_trans (Nat.le_trans HA.out.2.2.2.2.2.2.1.size HB2.out.1.size) H3.out.size) fun _ q => q.elim)
  have hwp : w.heap.size ≤ p := by rw [hp]; exact Nat.le_trans (Nat.le_trans HA.out.2.2.2.2.2.2.1.size HB2.out.1.size) H3.out.size
  have hW0 : WrL wB p p [] wB.drew := hwr.keep (bdrew (Below.refl _ _) 1)
  have HW := Lib.hid (And.intro hkB (And.intro hbxp (And.intro hbB hwp))); clear hkB hbxp hbB hwp hc3B hwB hp hwr
  have H0 := Lib.hid hW0; clear hW0
  have z0 : ∀ x : Later wB (fun k => p ≤ k), x.1.cell? ⟨bx, 0, none⟩ = some (.int .i64 r.kind) := fun x => (x.2.blk HW.out.1 (Nat.not_le.2 HW.out.2.1)).cell 0 rfl
  have z1 : ∀ x : Later wB (fun k => p ≤ k), x.1.cell? ⟨bx, 1, none⟩ = some (.int .i64 r.corr) := fun x => (x.2.blk HW.out.1 (Nat.not_le.2 HW.out.2.1)).cell 1 rfl
  have z2 : ∀ x : Later wB (fun k => p ≤ k), x.1.cell? ⟨bx, 2, none⟩ = some (.string r.client) := fun x => (x.2.blk HW.out.1 (Nat.not_le.2 HW.out.2.1)).cell 2 rfl
  have z3 : ∀ x : Later wB (fun k => p ≤ k), x.1.cell? ⟨bx, 3, none⟩ = some (.string r.topic) := fun x => (x.2.blk HW.out.1 (Nat.not_le.2 HW.out.2.1)).cell 3 rfl
  have z4 : ∀ x : Later wB (fun k => p ≤ k), x.1.cell? ⟨bx, 4, none⟩ = some (.int .i64 r.part) := fun x => (x.2.blk HW.out.1 (Nat.not_le.2 HW.out.2.1)).cell 4 rfl
  have z5 : ∀ x : Later wB (fun k => p ≤ k), x.1.cell? ⟨bx, 5, none⟩ = some (.int .i64 r.off) := fun x => (x.2.blk HW.out.1 (Nat.not_le.2 HW.out.2.1)).cell 5 rfl
  have z6 : ∀ x : Later wB (fun k => p ≤ k), x.1.cell? ⟨bx, 6, none⟩ = some (.int .i64 r.time) := fun x => (x.2.blk HW.out.1 (Nat.not_le.2 HW.out.2.1)).cell 6 rfl
  have z7 : ∀ x : Later wB (fun k => p ≤ k), x.1.cell? ⟨bx, 7, none⟩ = some (.int .i64 r.most) := fun x => (x.2.blk HW.out.1 (Nat.not_le.2 HW.out.2.1)).cell 7 rfl
  have hS0 : later wB (fun k => p ≤ k) wB.drew := later_of ((Chg.refl _ _).drew)
  refine wp_plan (S := fun w0 => ∃ x : Later wB (fun k => p ≤ k), w0 = x.1) (by kernel_rfl) hS0 ?_
  intro hS' K5 hK5
  have HS := Lib.hid hS'; clear hS' hS0
  refine plan_group [true, true, false, true, true, false, true, true, false, true, true, false, true, true, false, true, true, false, true, true, false, true, true] [0, 1, 3, 4, 6, 7, 9, 10, 12, 13, 15, 16, 18, 19, 21, 22] 8 (by dsimp only [sel]) (by rfl) rfl (by kernel_rfl) (by kernel_rfl) HS.out ?_
  (repeat go_big_quiet_step (fail)); refine wpQuiet_nil ?_
  clear z0 z1 z2 z3 z4 z5 z6 z7
  refine plan_one [false, false, true] 2 7 (by dsimp only [sel]) (by rfl) rfl (by kernel_rfl) ?_; intro K0 hK0
  go_wp2_with (go_at_call 27; refine (HC.out.1 wB p _ _ H0.out (by simp only [List.length_nil]; omega)).mono ?_; rintro e v0 ⟨rfl, h1⟩; have H1w := Lib.hid h1; clear h1)
  refine ⟨by first | exact later_of H1w.out.2.1 | exact fun _ => later_of H1w.out.2.1, ?_⟩
  refine plan_one [false, false, false, false, false, true] 5 6 (by dsimp only [sel]) (by rfl) rfl (by kernel_rfl) ?_; intro K1 hK1
  go_wp2_with (go_at_call 27; refine (HC.out.2.1 wB p _ _ H1w.out (by have := HLEN.out; simp only [List.length_append, List.length_nil]; omega)).mono ?_; rintro e v1 ⟨rfl, h1⟩; have H2w := Lib.hid h1; clear h1)
  refine ⟨by first | exact later_of H2w.out.2.1 | exact fun _ => later_of H2w.out.2.1, ?_⟩
  refine plan_one [false, false, false, false, false, false, false, false, true] 8 5 (by dsimp only [sel]) (by rfl) rfl (by kernel_rfl) ?_; intro K2 hK2
  go_wp2_with (go_at_call 28; refine (HC.out.2.2.1 wB p _ _ H2w.out (by have := HLEN.out; simp only [List.length_append, List.length_nil]; omega)).mono ?_; rintro e v2 ⟨rfl, h1⟩; have H3w := Lib.hid h1; clear h1)
  refine ⟨by first | exact later_of H3w.out.2.1 | exact fun _ => later_of H3w.out.2.1, ?_⟩
  refine plan_one [false, false, false, false, false, false, false, false, false, false, false, true] 11 4 (by dsimp only [sel]) (by rfl) rfl (by kernel_rfl) ?_; intro K3 hK3
  go_wp2_with (go_at_call 28; refine (HC.out.2.2.2.1 wB p _ _ H3w.out (by have := HLEN.out; simp only [List.length_append, List.length_nil]; omega)).mono ?_; rintro e v3 ⟨rfl, h1⟩; have H4w := Lib.hid h1; clear h1)
  refine ⟨by first | exact later_of H4w.out.2.1 | exact fun _ => later_of H4w.out.2.1, ?_⟩
  refine plan_one [false, false, false, false, false, false, false, false, false, false, false, false, false, false, true] 14 3 (by dsimp only [sel]) (by rfl) rfl (by kernel_rfl) ?_; intro K4 hK4
  go_wp2_with (go_at_call 29; refine (HC.out.2.2.2.2.1 wB p _ _ H4w.out (by have := HLEN.out; simp only [List.length_append, List.length_nil]; omega)).mono ?_; rintro e v4 ⟨rfl, h1⟩; have H5w := Lib.hid h1; clear h1)
  refine ⟨by first | exact later_of H5w.out.2.1 | exact fun _ => later_of H5w.out.2.1, ?_⟩
  refine plan_one [false, false, false, false, false, false, false, false, false, false, false, false, false, false, false, false, false, true] 17 2 (by dsimp only [sel]) (by rfl) rfl (by kernel_rfl) ?_; intro K5 hK5
  go_wp2_with (go_at_call 29; refine (HC.out.2.2.2.2.2.1 wB p _ _ H5w.out (by have := HLEN.out; simp only [List.length_append, List.length_nil]; omega)).mono ?_; rintro e v5 ⟨rfl, h1⟩; have H6w := Lib.hid h1; clear h1)
  refine ⟨by first | exact later_of H6w.out.2.1 | exact fun _ => later_of H6w.out.2.1, ?_⟩
  refine plan_one [false, false, false, false, false, false, false, false, false, false, false, false, false, false, false, false, false, false, false, false, true] 20 1 (by dsimp only [sel]) (by rfl) rfl (by kernel_rfl) ?_; intro K6 hK6
  go_wp2_with (go_at_call 29; refine (HC.out.2.2.2.2.2.2.1 wB p _ _ H6w.out (by have := HLEN.out; simp only [List.length_append, List.length_nil]; omega)).mono ?_; rintro e v6 ⟨rfl, h1⟩; have H7w := Lib.hid h1; clear h1)
  refine ⟨by first | exact later_of H7w.out.2.1 | exact fun _ => later_of H7w.out.2.1, ?_⟩
  refine plan_one [false, false, false, false, false, false, false, false, false, false, false, false, false, false, false, false, false, false, false, false, false, false, false, true] 23 0 (by dsimp only [sel]) (by rfl) rfl (by kernel_rfl) ?_; intro K7 hK7
  go_wp2_with (go_at_call 29; refine (HC.out.2.2.2.2.2.2.2.1 wB p _ _ H7w.out (by have := HLEN.out; simp only [List.length_append, List.length_nil]; omega)).mono ?_; rintro e v7 ⟨rfl, h1⟩; have H8w := Lib.hid h1; clear h1)
  refine ⟨by first | exact later_of H8w.out.2.1 | exact fun _ => later_of H8w.out.2.1, ?_⟩
  refine wp_plan_end (by kernel_rfl) ?_
  refine hK5 _ _ ?_
  clear HS
  go_upto_region 12 with fail
  have z8 : ∀ x : Later wB (fun k => p ≤ k), x.1.cell? ⟨bx, 8, none⟩ = some (.string r.group) := fun x => (x.2.blk HW.out.1 (Nat.not_le.2 HW.out.2.1)).cell 8 rfl
  have z9 : ∀ x : Later wB (fun k => p ≤ k), x.1.cell? ⟨bx, 9, none⟩ = some (.string r.member) := fun x => (x.2.blk HW.out.1 (Nat.not_le.2 HW.out.2.1)).cell 9 rfl
  have z10 : ∀ x : Later wB (fun k => p ≤ k), x.1.cell? ⟨bx, 10, none⟩ = some (.int .i64 r.gen) := fun x => (x.2.blk HW.out.1 (Nat.not_le.2 HW.out.2.1)).cell 10 rfl
  have hW8 := H8w.out.keep (bdrew (Below.refl v7.heap.size v7) 1)
  have H8 := Lib.hid hW8; clear hW8
  have hS0 : later wB (fun k => p ≤ k) v7.drew := later_of H8.out.2.1
  refine wp_plan (S := fun w0 => ∃ x : Later wB (fun k => p ≤ k), w0 = x.1) (by kernel_rfl) hS0 ?_
  intro hS' K6 hK6
  have HS := Lib.hid hS'; clear hS' hS0
  refine plan_group [true, true, false, true, true, false, true, true] [0, 1, 3, 4, 6, 7] 3 (by dsimp only [sel]) (by rfl) rfl (by kernel_rfl) (by kernel_rfl) HS.out ?_
  (repeat go_big_quiet_step (fail)); refine wpQuiet_nil ?_
  clear z8 z9 z10
  refine plan_one [false, false, true] 2 2 (by dsimp only [sel]) (by rfl) rfl (by kernel_rfl) ?_; intro K8 hK8
  go_wp2_with (go_at_call 28; refine (HC.out.2.2.2.2.2.2.2.2.1 wB p _ _ H8.out (by have := HLEN.out; simp only [List.length_append, List.length_nil]; omega)).mono ?_; rintro e v8 ⟨rfl, h1⟩; have H9w := Lib.hid h1; clear h1)
  refine ⟨by first | exact later_of H9w.out.2.1 | exact fun _ => later_of H9w.out.2.1, ?_⟩
  refine plan_one [false, false, false, false, false, true] 5 1 (by dsimp only [sel]) (by rfl) rfl (by kernel_rfl) ?_; intro K9 hK9
  go_wp2_with (go_at_call 28; refine (HC.out.2.2.2.2.2.2.2.2.2.1 wB p _ _ H9w.out (by have := HLEN.out; simp only [List.length_append, List.length_nil]; omega)).mono ?_; rintro e v9 ⟨rfl, h1⟩; have H10w := Lib.hid h1; clear h1)
  refine ⟨by first | exact later_of H10w.out.2.1 | exact fun _ => later_of H10w.out.2.1, ?_⟩
  refine plan_one [false, false, false, false, false, false, false, false, true] 8 0 (by dsimp only [sel]) (by rfl) rfl (by kernel_rfl) ?_; intro K10 hK10
  go_wp2_with (go_at_call 29; refine (HC.out.2.2.2.2.2.2.2.2.2.2 wB p _ _ H10w.out (by have := HLEN.out; simp only [List.length_append, List.length_nil]; omega)).mono ?_; rintro e v10 ⟨rfl, h1⟩; have H11w := Lib.hid h1; clear h1)
  refine ⟨by first | exact later_of H11w.out.2.1 | exact fun _ => later_of H11w.out.2.1, ?_⟩
  refine wp_plan_end (by kernel_rfl) ?_
  refine hK6 _ _ ?_
  clear HS
  have hlow : ∀ (A : Option Addr) (V : Nat → Value) (n : Nat), At w A n V → 0 < n → ∀ b off, A = some ⟨b, off, none⟩ → b < p := fun A V n ha hn b off hA => by
    obtain ⟨b', off', e, hb, -⟩ := ha hn
    rw [hA] at e
    obtain ⟨rfl, rfl⟩ : b = b' ∧ off = off' := by simpa using e
    have := HW.out.2.2.2
    omega
  have HLOW := Lib.hid hlow; clear hlow
  have hnm : ∀ s ∈ r.names, s.size ≤ 1000000 := fun s hs => by have := HA.out.2.2.1 s hs; omega
  have hwt := pq.writes_any H11w.out r.names An cn (by rw [← HA.out.2.2.2.2.1]; exact HA.out.1.below HW.out.2.2.1 (Nat.le_refl _)) (by rw [← HA.out.2.2.2.2.1]; exact HLOW.out _ _ _ HA.out.1) (by rw [← HA.out.2.2.2.2.1]; omega) hnm (by have := HLEN.out; simp only [List.length_append, List.length_nil]; omega)
  rw [← HA.out.2.2.2.2.1] at hwt
  have hk11 := H11w.out.2.1.blk HW.out.1 (Nat.not_le.2 HW.out.2.1)
  have y11 := hk11.cell 11 (v := .slice An nn cn) rfl
  have yl := hk11.lt
  have htl : (pq.texts r.names).length ≤ 300000000 := by
    have h1 := pq.texts_len r.names hnm
    rw [← HA.out.2.2.2.2.1] at h1
    omega
  have HWT := Lib.hid (And.intro hwt htl); clear hwt hk11 htl hnm
  go_upto_region 14 with (go_at_call 30; refine HWT.out.1.mono ?_; rintro e v11 ⟨rfl, h1⟩; have H12w := Lib.hid h1; clear h1)
  clear y11 yl
  have hk12 := H12w.out.2.1.blk HW.out.1 (Nat.not_le.2 HW.out.2.1)
  have y12 := hk12.cell 12 (v := .slice Ad nd cd) rfl
  have yl := hk12.lt
  have hat12 : At v11 Ad nd (byteAt r.data) := H12w.out.2.1.at' (HA.out.2.1.below HW.out.2.2.1 (Nat.le_refl _)) fun hn b off hA hB => by have := HLOW.out _ _ _ HA.out.2.1 hn b off hA; omega
  have hnb := num.put_bd (nn : Int)
  have hlb : ([] ++ x0 ++ x1 ++ x2 ++ x3 ++ x4 ++ x5 ++ x6 ++ x7 ++ x8 ++ x9 ++ x10 ++ num.put (nn : Int) ++ pq.texts r.names).length ≤ 400000000 := by
    have h1 := HLEN.out
    have h2 := HWT.out.2
    simp only [List.length_append, List.length_nil]
    omega
  have hby := H12w.out.bytes Ad cd r.data (by rw [← HA.out.2.2.2.2.2.1]; omega) (by rw [← HA.out.2.2.2.2.2.1]; exact hat12) (by rw [← HA.out.2.2.2.2.2.1]; exact HLOW.out _ _ _ HA.out.2.1)
  rw [← HA.out.2.2.2.2.2.1, ← HA.out.2.2.2.1] at hby
  have hLl : L.length ≤ 500000000 := by
    have h2 := num.put_bd (nd : Int)
    rw [HA.out.2.2.2.1]
    rw [List.length_append, List.length_append, ← HA.out.2.2.2.2.2.1]
    omega
  have HBY := Lib.hid (And.intro hby hLl); clear hby hLl hlb hat12 hk12 hnb
  go_wp2_with (first
    | (go_at_call 32; refine (WrL.done H13w.out (by have := HBY.out.2; omega)).mono ?_; rintro e v13 ⟨⟨uu, rfl, h1⟩, h2⟩; have H14 := Lib.hid (And.intro h1 h2); clear h1 h2)
    | (go_at_call 31; refine HBY.out.1.mono ?_; rintro e v12 ⟨rfl, h1⟩; have H13w := Lib.hid h1; clear h1))
  go_ret2
  have hfin : Below w.heap.size w v13 := by
    have a1 : Chg w v12 (fun k => p ≤ k) := (chg_of (P := fun k => p ≤ k) HW.out.2.2.1).trans H13w.out.2.1 fun _ _ q => q
    exact (a1.below (Nat.le_refl _) fun k q => Nat.le_trans HW.out.2.2.2 q).trans (H14.out.2.mono (Nat.le_trans (by exact HW.out.2.2.1.size) H13w.out.2.1.size))
  exact ⟨⟨uu, rfl, ownsRow_base H14.out.1 (Nat.le_trans HW.out.2.2.1.size H13w.out.2.1.size)⟩, hfin⟩
end
section
open Go.RowKit
set_option maxRecDepth 20000
set_option maxHeartbeats 8000000 in
theorem pq.encode_bad (r : PReq) (An : Option Addr) (cn : Nat) (Ad : Option Addr) (cd : Nat) (w : World) (h : ReqV w An cn Ad cd r) (hck : pq.check r ≠ 0) :
    Calls Try.prog 10 #[.agg (r.cells An cn Ad cd)] w fun e w' => e = .returned (.tuple #[.slice none 0 0, .int .i64 (pq.check r)]) ∧ Below w.heap.size w w' := by
  obtain ⟨-, hnv, hdv⟩ := h
  obtain ⟨A1, c1, e1, hat, hac, hacm, -⟩ := hnv
  obtain ⟨rfl, rfl⟩ : An = A1 ∧ cn = c1 := by injection e1 with q1 q2 q3; exact ⟨q1, q3⟩
  have hdl : r.data.length ≤ maxLen := by obtain ⟨A2, c2, -, -, q1, q2, -⟩ := hdv; exact Nat.le_trans q1 q2
  clear e1 hdv
  obtain ⟨K, hK⟩ : ∃ K, K = pq.check r := ⟨_, rfl⟩
  rw [← hK] at hck ⊢
  unfold pq.check at hK
  obtain ⟨nn, hnn⟩ : ∃ n, n = r.names.length := ⟨_, rfl⟩
  obtain ⟨nd, hnd⟩ : ∃ n, n = r.data.length := ⟨_, rfl⟩
  obtain ⟨l4, hl4⟩ : ∃ b, b = pq.long [r.client, r.topic, r.group, r.member] := ⟨_, rfl⟩
  obtain ⟨ln, hln⟩ : ∃ b, b = pq.long r.names := ⟨_, rfl⟩
  unfold PReq.cells
  rw [← hnn, ← hnd]
  rw [← hnn, ← hnd, ← hl4, ← hln] at hK
  rw [← hnn] at hat hac
  rw [← hnd] at hdl
  unfold maxLen at hacm hdl
  obtain ⟨bx, hbx⟩ : ∃ b, b = w.heap.size := ⟨_, rfl⟩
  obtain ⟨w1, hw1⟩ : ∃ w1, w1 = w.alloc (.cells #[.int .i64 r.kind, .int .i64 r.corr, .string r.client, .string r.topic, .int .i64 r.part, .int .i64 r.off, .int .i64 r.time, .int .i64 r.most, .string r.group, .string r.member, .int .i64 r.gen, .slice An nn cn, .slice Ad nd cd] 25) := ⟨_, rfl⟩
  have hk1 : Blk w1 bx 25 #[.int .i64 r.kind, .int .i64 r.corr, .string r.client, .string r.topic, .int .i64 r.part, .int .i64 r.off, .int .i64 r.time, .int .i64 r.most, .string r.group, .string r.member, .int .i64 r.gen, .slice An nn cn, .slice Ad nd cd] := by rw [hw1, hbx]; exact Blk.new _ _ _
  have hb1 : Below w.heap.size w w1 := by rw [hw1]; exact (Below.refl _ _).alloc (Nat.le_refl _) _
  have h4 := pq.long_any [r.client, r.topic, r.group, r.member] (some ⟨w1.heap.size, 0, none⟩) 4 (w1.alloc (.cells #[.string r.client, .string r.topic, .string r.group, .string r.member] 9)) (pq.at_four w1 _ _ _ _ _) (by unfold maxLen; simp)
  rw [← hl4] at h4
  have hn : ∀ wx, Below w.heap.size w wx → Calls Try.prog 26 #[.slice An nn cn] wx fun e w' => e = .returned (.bool ln) ∧ Below wx.heap.size wx w' := fun wx hb => by
    have := pq.long_any r.names An cn wx (by rw [← hnn]; exact hat.below hb (Nat.le_refl _)) (by rw [← hnn]; unfold maxLen; omega)
    rw [← hln, ← hnn] at this
    exact this
  have hb4 : ∀ w2, Below (w1.heap.size + 1) (w1.alloc (.cells #[.string r.client, .string r.topic, .string r.group, .string r.member] 9)) w2 → Below w.heap.size w w2 ∧ Blk w2 bx 25 #[.int .i64 r.kind, .int .i64 r.corr, .string r.client, .string r.topic, .int .i64 r.part, .int .i64 r.off, .int .i64 r.time, .int .i64 r.most, .string r.group, .string r.member, .int .i64 r.gen, .slice An nn cn, .slice Ad nd cd] := fun w2 h => by
    have a1 : Below w1.heap.size w1 w2 := ((Below.refl w1.heap.size w1).alloc (Nat.le_refl _) _).trans (h.mono (by omega))
    exact ⟨hb1.trans (a1.mono hb1.size), (chg_of (P := fun _ => False) a1).blk hk1 fun q => q⟩
  have HA := Lib.hid (And.intro h4 (And.intro hn (And.intro hb4 (And.intro hb1 (And.intro hK hck))))); clear h4 hn hb4 hb1 hnn hnd hl4 hln hat hK hck
  have y0 := hk1.cell 0 (v := .int .i64 r.kind) rfl
  have y1 := hk1.cell 1 (v := .int .i64 r.corr) rfl
  have y2 := hk1.cell 2 (v := .string r.client) rfl
  have y3 := hk1.cell 3 (v := .string r.topic) rfl
  have y4 := hk1.cell 4 (v := .int .i64 r.part) rfl
  have y5 := hk1.cell 5 (v := .int .i64 r.off) rfl
  have y6 := hk1.cell 6 (v := .int .i64 r.time) rfl
  have y7 := hk1.cell 7 (v := .int .i64 r.most) rfl
  have y8 := hk1.cell 8 (v := .string r.group) rfl
  have y9 := hk1.cell 9 (v := .string r.member) rfl
  have y10 := hk1.cell 10 (v := .int .i64 r.gen) rfl
  have y11 := hk1.cell 11 (v := .slice An nn cn) rfl
  have y12 := hk1.cell 12 (v := .slice Ad nd cd) rfl
  have yl := hk1.lt
  have hk1' := Lib.hid hk1; clear hk1
  go_enter Try.func10, Try.ntmps10
  go_upto_region 1 with fail
  rw [← hw1, ← hbx]
  clear hw1 hbx
  by_cases k0 : r.kind < 1
  · have d0 : decide (r.kind < 1) = true := decide_eq_true k0
    have hR : K = 16 := by rw [HA.out.2.2.2.2.1, if_pos (.inl k0)]
    have HR := Lib.hid hR; clear hR
    go_wp2_with fail
    go_ret2
    exact ⟨by rw [HR.out]; rfl, HA.out.2.2.2.1⟩
  have d0 : decide (r.kind < 1) = false := decide_eq_false k0
  by_cases k1 : 14 < r.kind
  · have d1 : decide (14 < r.kind) = true := decide_eq_true k1
    have hR : K = 16 := by rw [HA.out.2.2.2.2.1, if_pos (.inr k1)]
    have HR := Lib.hid hR; clear hR
    go_wp2_with fail
    go_ret2
    exact ⟨by rw [HR.out]; rfl, HA.out.2.2.2.1⟩
  have d1 : decide (14 < r.kind) = false := decide_eq_false k1
  by_cases k2 : r.corr < 0
  · have d2 : decide (r.corr < 0) = true := decide_eq_true k2
    have hR : K = 1 := by rw [HA.out.2.2.2.2.1, if_neg (by omega), if_pos (.inl k2)]
    have HR := Lib.hid hR; clear hR
    go_wp2_with fail
    go_ret2
    exact ⟨by rw [HR.out]; rfl, HA.out.2.2.2.1⟩
  have d2 : decide (r.corr < 0) = false := decide_eq_false k2
  by_cases k3 : 2147483647 < r.corr
  · have d3 : decide (2147483647 < r.corr) = true := decide_eq_true k3
    have hR : K = 1 := by rw [HA.out.2.2.2.2.1, if_neg (by omega), if_pos (.inr k3)]
    have HR := Lib.hid hR; clear hR
    go_wp2_with fail
    go_ret2
    exact ⟨by rw [HR.out]; rfl, HA.out.2.2.2.1⟩
  have d3 : decide (2147483647 < r.corr) = false := decide_eq_false k3
  have hR : K = if l4 = true ∨ 30 < nn ∨ ln = true ∨ 65536 < nd then 3 else 0 := by rw [HA.out.2.2.2.2.1, if_neg (by omega), if_neg (by omega)]
  have HR := Lib.hid hR; clear hR
  cases l4 with
  | true =>
    have hR : K = 3 := by rw [HR.out, if_pos (.inl rfl)]
    have HR3 := Lib.hid hR; clear hR
    go_wp2_with (go_at_call 26; refine HA.out.1.mono ?_; rintro e w2 ⟨rfl, h1⟩; have H2 := Lib.hid (HA.out.2.2.1 w2 (by rw [World.size_alloc] at h1; exact h1)); clear h1)
    go_ret2
    exact ⟨by rw [HR3.out]; rfl, H2.out.1⟩
  | false =>
    go_upto_region 6 with (go_at_call 26; refine HA.out.1.mono ?_; rintro e w2 ⟨rfl, h1⟩; have H2 := Lib.hid (HA.out.2.2.1 w2 (by rw [World.size_alloc] at h1; exact h1)); clear h1)
    clear y0 y1 y2 y3 y4 y5 y6 y7 y8 y9 y10 y11 y12 yl
    have y11 := H2.out.2.cell 11 (v := .slice An nn cn) rfl
    have y12 := H2.out.2.cell 12 (v := .slice Ad nd cd) rfl
    have yl := H2.out.2.lt
    by_cases k4 : 30 < nn
    · have d4 : decide (30 < nn) = true := decide_eq_true k4
      have d4' : decide (30 < (nn : Int)) = true := decide_eq_true (by omega)
      have hR : K = 3 := by rw [HR.out, if_pos (.inr (.inl k4))]
      have HR3 := Lib.hid hR; clear hR
      go_wp2_with fail
      go_ret2
      exact ⟨by rw [HR3.out]; rfl, H2.out.1⟩
    have d4 : decide (30 < nn) = false := decide_eq_false k4
    have d4' : decide (30 < (nn : Int)) = false := decide_eq_false (by omega)
    have HN := Lib.hid (HA.out.2.1 w2 H2.out.1)
    cases ln with
    | true =>
      have hR : K = 3 := by rw [HR.out, if_pos (.inr (.inr (.inl rfl)))]
      have HR3 := Lib.hid hR; clear hR
      go_wp2_with (go_at_call 26; refine HN.out.mono ?_; rintro e w3 ⟨rfl, h1⟩; have H3 := Lib.hid (H2.out.1.trans (h1.mono H2.out.1.size)); clear h1)
      go_ret2
      exact ⟨by rw [HR3.out]; rfl, H3.out⟩
    | false =>
      go_upto_region 8 with (go_at_call 26; refine HN.out.mono ?_; rintro e w3 ⟨rfl, h1⟩; have H3 := Lib.hid (And.intro (H2.out.1.trans (h1.mono H2.out.1.size)) ((chg_of (P := fun _ => False) h1).blk H2.out.2 fun q => q)); clear h1)
      clear y11 y12 yl
      have y12 := H3.out.2.cell 12 (v := .slice Ad nd cd) rfl
      have yl := H3.out.2.lt
      by_cases k5 : 65536 < nd
      · have d5 : decide (65536 < nd) = true := decide_eq_true k5
        have d5' : decide (65536 < (nd : Int)) = true := decide_eq_true (by omega)
        have hR : K = 3 := by rw [HR.out, if_pos (.inr (.inr (.inr k5)))]
        have HR3 := Lib.hid hR; clear hR
        go_wp2_with fail
        go_ret2
        exact ⟨by rw [HR3.out]; rfl, H3.out.1⟩
      · exact absurd (by rw [HR.out, if_neg]; rintro (h | h | h | h); exact absurd h (by decide); exact k4 h; exact absurd h (by decide); exact k5 h) HA.out.2.2.2.2.2
/-- What Encode says of any request. -/
theorem pq.encode_any (r : PReq) (An : Option Addr) (cn : Nat) (Ad : Option Addr) (cd : Nat) (w : World) (h : ReqV w An cn Ad cd r) :
    Calls Try.prog 10 #[.agg (r.cells An cn Ad cd)] w fun e w' => (∃ v, e = .returned (.tuple #[v, .int .i64 (pq.check r)]) ∧ w'.ownsRow w.heap.size 5 1 v (if pq.check r = 0 then pq.bytes r else []).length (u8s (if pq.check r = 0 then pq.bytes r else []))) ∧ Below w.heap.size w w' := by
  by_cases h0 : pq.check r = 0
  · rw [if_pos h0, h0]
    exact pq.encode_ok r An cn Ad cd w h h0
  · rw [if_neg h0]
    refine (pq.encode_bad r An cn Ad cd w h h0).mono ?_
    rintro e w' ⟨rfl, hb⟩
    exact ⟨⟨_, rfl, World.ownsRow_nil _ _ _ _⟩, hb⟩
end
section
open Go.RowKit
set_option maxRecDepth 20000
theorem pq.at_two (w : World) (a b : ByteArray) (t : TypeId) : At (w.alloc (.cells #[.string a, .string b] t)) (some ⟨w.heap.size, 0, none⟩) 2 (fun j => .string ([a, b].getD j ByteArray.empty)) :=
  (At.new w #[.string a, .string b] t (fr := (0, 0)) (n := 2) rfl).congr fun j hj => by
    have hj' : j = 0 ∨ j = 1 := by omega
    rcases hj' with rfl | rfl <;> rfl
set_option maxHeartbeats 8000000 in
theorem pq.answer_neg (w : World) :
    Calls Try.prog 18 #[.agg #[.int .i64 0, .int .i64 (-1), .int .i64 0, .int .i64 0, .int .i64 0, .string (ByteArray.mk #[]), .string (ByteArray.mk #[]), .slice none 0 0, .slice none 0 0, .slice none 0 0]] w fun e w' => e = .returned (.tuple #[.slice none 0 0, .int .i64 1]) ∧ Below w.heap.size w w' := by
  obtain ⟨bx, hbx⟩ : ∃ b, b = w.heap.size := ⟨_, rfl⟩
  obtain ⟨w1, hw1⟩ : ∃ w1, w1 = w.alloc (.cells #[.int .i64 0, .int .i64 (-1), .int .i64 0, .int .i64 0, .int .i64 0, .string (ByteArray.mk #[]), .string (ByteArray.mk #[]), .slice none 0 0, .slice none 0 0, .slice none 0 0] 41) := ⟨_, rfl⟩
  have hk1 : Blk w1 bx 41 #[.int .i64 0, .int .i64 (-1), .int .i64 0, .int .i64 0, .int .i64 0, .string (ByteArray.mk #[]), .string (ByteArray.mk #[]), .slice none 0 0, .slice none 0 0, .slice none 0 0] := by rw [hw1, hbx]; exact Blk.new _ _ _
  have hb1 : Below w.heap.size w w1 := by rw [hw1]; exact (Below.refl _ _).alloc (Nat.le_refl _) _
  have HA := Lib.hid hb1; clear hb1
  have y0 := hk1.cell 0 (v := .int .i64 0) rfl
  have y1 := hk1.cell 1 (v := .int .i64 (-1)) rfl
  have y2 := hk1.cell 2 (v := .int .i64 0) rfl
  have y3 := hk1.cell 3 (v := .int .i64 0) rfl
  have y4 := hk1.cell 4 (v := .int .i64 0) rfl
  have y5 := hk1.cell 5 (v := .string (ByteArray.mk #[])) rfl
  have y6 := hk1.cell 6 (v := .string (ByteArray.mk #[])) rfl
  have y7 := hk1.cell 7 (v := .slice none 0 0) rfl
  have y8 := hk1.cell 8 (v := .slice none 0 0) rfl
  have y9 := hk1.cell 9 (v := .slice none 0 0) rfl
  have yl := hk1.lt
  clear hk1
  go_enter Try.func18, Try.ntmps18
  go_upto_region 1 with fail
  rw [← hw1, ← hbx]
  clear hw1 hbx
  go_wp2_with fail
  go_ret2
  exact ⟨rfl, HA.out⟩
set_option maxHeartbeats 8000000 in
theorem pq.answer_many (A : Option Addr) (c : Nat) (w : World) :
    Calls Try.prog 18 #[.agg #[.int .i64 0, .int .i64 0, .int .i64 0, .int .i64 0, .int .i64 0, .string (ByteArray.mk #[]), .string (ByteArray.mk #[]), .slice none 0 0, .slice A 1001 c, .slice none 0 0]] w fun e w' => e = .returned (.tuple #[.slice none 0 0, .int .i64 3]) ∧ Below w.heap.size w w' := by
  obtain ⟨bx, hbx⟩ : ∃ b, b = w.heap.size := ⟨_, rfl⟩
  obtain ⟨w1, hw1⟩ : ∃ w1, w1 = w.alloc (.cells #[.int .i64 0, .int .i64 0, .int .i64 0, .int .i64 0, .int .i64 0, .string (ByteArray.mk #[]), .string (ByteArray.mk #[]), .slice none 0 0, .slice A 1001 c, .slice none 0 0] 41) := ⟨_, rfl⟩
  have hk1 : Blk w1 bx 41 #[.int .i64 0, .int .i64 0, .int .i64 0, .int .i64 0, .int .i64 0, .string (ByteArray.mk #[]), .string (ByteArray.mk #[]), .slice none 0 0, .slice A 1001 c, .slice none 0 0] := by rw [hw1, hbx]; exact Blk.new _ _ _
  have hb1 : Below w.heap.size w w1 := by rw [hw1]; exact (Below.refl _ _).alloc (Nat.le_refl _) _
  have h2 : Calls Try.prog 26 #[.slice (some ⟨w1.heap.size, 0, none⟩) 2 2] (w1.alloc (.cells #[.string (ByteArray.mk #[]), .string (ByteArray.mk #[])] 9)) fun e w' => e = .returned (.bool false) ∧ Below w.heap.size w w' ∧ Blk w' bx 41 #[.int .i64 0, .int .i64 0, .int .i64 0, .int .i64 0, .int .i64 0, .string (ByteArray.mk #[]), .string (ByteArray.mk #[]), .slice none 0 0, .slice A 1001 c, .slice none 0 0] := by
    refine (pq.long_any [ByteArray.mk #[], ByteArray.mk #[]] (some ⟨w1.heap.size, 0, none⟩) 2 (w1.alloc (.cells #[.string (ByteArray.mk #[]), .string (ByteArray.mk #[])] 9)) (pq.at_two w1 _ _ _) (by decide)).mono ?_
    rintro e w' ⟨rfl, h⟩
    rw [World.size_alloc] at h
    have a1 : Below w1.heap.size w1 w' := ((Below.refl w1.heap.size w1).alloc (Nat.le_refl _) _).trans (h.mono (by omega))
    exact ⟨rfl, hb1.trans (a1.mono hb1.size), (chg_of (P := fun _ => False) a1).blk hk1 fun q => q⟩
  have hn : ∀ wx, Below w.heap.size w wx → Calls Try.prog 26 #[.slice none 0 0] wx fun e w' => e = .returned (.bool false) ∧ Below wx.heap.size wx w' := fun wx _ => pq.long_any [] none 0 wx (fun h => absurd h (by decide)) (by decide)
  have HA := Lib.hid (And.intro h2 hn); clear h2 hn hb1
  have y0 := hk1.cell 0 (v := .int .i64 0) rfl
  have y1 := hk1.cell 1 (v := .int .i64 0) rfl
  have y2 := hk1.cell 2 (v := .int .i64 0) rfl
  have y3 := hk1.cell 3 (v := .int .i64 0) rfl
  have y4 := hk1.cell 4 (v := .int .i64 0) rfl
  have y5 := hk1.cell 5 (v := .string (ByteArray.mk #[])) rfl
  have y6 := hk1.cell 6 (v := .string (ByteArray.mk #[])) rfl
  have y7 := hk1.cell 7 (v := .slice none 0 0) rfl
  have y8 := hk1.cell 8 (v := .slice A 1001 c) rfl
  have y9 := hk1.cell 9 (v := .slice none 0 0) rfl
  have yl := hk1.lt
  clear hk1
  go_enter Try.func18, Try.ntmps18
  go_upto_region 1 with fail
  rw [← hw1, ← hbx]
  clear hw1 hbx
  go_upto_region 4 with (go_at_call 26; refine HA.out.1.mono ?_; rintro e w2 ⟨rfl, h1, h2⟩; have H2 := Lib.hid (And.intro h1 h2); clear h1 h2)
  clear y0 y1 y2 y3 y4 y5 y6 y7 y8 y9 yl
  have y7 := H2.out.2.cell 7 (v := .slice none 0 0) rfl
  have y8 := H2.out.2.cell 8 (v := .slice A 1001 c) rfl
  have y9 := H2.out.2.cell 9 (v := .slice none 0 0) rfl
  have yl := H2.out.2.lt
  go_upto_region 6 with (go_at_call 26; refine (HA.out.2 w2 H2.out.1).mono ?_; rintro e w3 ⟨rfl, h1⟩; have H3 := Lib.hid (And.intro (H2.out.1.trans (h1.mono H2.out.1.size)) ((chg_of (P := fun _ => False) h1).blk H2.out.2 fun q => q)); clear h1)
  clear y7 y8 y9 yl
  have y8 := H3.out.2.cell 8 (v := .slice A 1001 c) rfl
  have y9 := H3.out.2.cell 9 (v := .slice none 0 0) rfl
  have yl := H3.out.2.lt
  go_wp2_with fail
  go_ret2
  exact ⟨rfl, H3.out.1⟩
end
end Go.Proofs.Ytimcpbbcealkiaa

/- proto: a request written (chapter 20). -/
import Derived.BigQuiet
import Derived.Test.YtimcpbbcealkiaaPqO
import Derived.Test.YtimcpbbcealkiaaWrT
import Derived.Test.YtimcpbbcealkiaaWrL
import Derived.Test.YtimcpbbcealkiaaPlanE
namespace Go.Proofs.Ytimcpbbcealkiaa
open Go.RowKit
set_option maxRecDepth 20000

/-- Whether a text is too long. -/
def pq.long (l : List ByteArray) : Bool := l.any fun s => decide (100 < s.size)
theorem pq.long1_any (s : ByteArray) (w : World) : Calls Try.prog 54 #[.string s] w fun e w' => e = .returned (.bool (decide (100 < s.size))) ∧ w = w' := by
  by_cases h : 100 < s.size
  · have d0 : decide (100 < (s.size : Int)) = true := decide_eq_true (by omega)
    rw [decide_eq_true h]
    go_enter Try.func54, Try.ntmps54
    go_wp2
    go_ret
    exact ⟨rfl, rfl⟩
  · have d0 : decide (100 < (s.size : Int)) = false := decide_eq_false (by omega)
    rw [decide_eq_false h]
    go_enter Try.func54, Try.ntmps54
    go_wp2
    go_ret
    exact ⟨rfl, rfl⟩
theorem pq.index_any (l : List ByteArray) (A : Option Addr) (c : Nat) (w : World) (h : At w A l.length (fun j => .string (l.getD j ByteArray.empty))) (hl : l.length ≤ maxLen) :
    Calls Try.prog 74 #[.slice A l.length c, .func (.func 54) #[] #[]] w fun e w' => (∃ r : Int, e = .returned (.int .i64 r) ∧ decide (0 ≤ r) = pq.long l) ∧ Below w.heap.size w w' := by
  unfold maxLen at hl
  have hno : (∀ (i : Nat) (s : ByteArray), l[i]? = some s → ¬ 100 < s.size) → pq.long l = false := fun h => by
    unfold pq.long
    rw [List.any_eq_false]
    intro s hs
    obtain ⟨i, hi⟩ := List.mem_iff_getElem?.1 hs
    simpa using h i s hi
  have hyes : ∀ (i : Nat) (s : ByteArray), l[i]? = some s → 100 < s.size → pq.long l = true := fun i s hi hs => by
    unfold pq.long
    rw [List.any_eq_true]
    exact ⟨s, List.mem_of_getElem? hi, decide_eq_true hs⟩
  obtain ⟨n, hn⟩ : ∃ n, n = l.length := ⟨_, rfl⟩
  rw [← hn] at h hl ⊢
  have H := Lib.hid (And.intro h (And.intro hno (And.intro hyes hn))); clear h hno hyes hn
  go_enter Try.func74, Try.ntmps74
  go_wp2_with fail
  go_loopw [8] (fun i wr => ∃ j : Nat, j ≤ n ∧ i = .int .i64 (j : Int) ∧ (∀ (i : Nat) (s : ByteArray), l[i]? = some s → i < j → ¬ 100 < s.size) ∧ w = wr) (fun i _ => n - (intOf i).toNat)
  case atStart => exact ⟨0, by omega, rfl, fun _ _ _ h => by omega, rfl⟩
  case round =>
    obtain ⟨j, hj, rfl, hq, rfl⟩ := hrel
    have HQ := Lib.hid hq; clear hq
    by_cases hlt : j < n
    · have hlt' : (j : Int) < (n : Int) := by omega
      obtain ⟨s, hs⟩ : ∃ s, l[j]? = some s := ⟨_, List.getElem?_eq_getElem (by have := H.out.2.2.2; omega)⟩
      obtain ⟨b, off, rfl, hb, hc⟩ := H.out.1 (by omega)
      have c0 : w.cell? ⟨b, off + j, none⟩ = some (.string s) := by rw [hc j hlt]; simp [List.getD, hs]
      clear hc
      have HS := Lib.hid hs; clear hs
      by_cases hbig : 100 < s.size
      · have hl1 := pq.long1_any s w
        rw [decide_eq_true hbig] at hl1
        have HF := Lib.hid (And.intro hl1 (H.out.2.2.1 j s HS.out hbig)); clear hl1 hbig
        go_wp2_with (go_at_call 54; refine HF.out.1.mono ?_; rintro e w2 ⟨rfl, h2⟩; subst h2)
        go_ret
        exact ⟨⟨_, rfl, by rw [HF.out.2]; exact decide_eq_true (by omega)⟩, Below.refl _ _⟩
      · have hl1 := pq.long1_any s w
        rw [decide_eq_false hbig] at hl1
        have hq2 : ∀ (i : Nat) (s : ByteArray), l[i]? = some s → i < j + 1 → ¬ 100 < s.size := fun i x hx hi => by
          rcases Nat.lt_or_ge i j with h' | h'
          · exact HQ.out i x hx h'
          · obtain rfl : i = j := by omega
            rw [HS.out] at hx
            cases hx
            exact hbig
        have HF := Lib.hid (And.intro hl1 hq2); clear hl1 hbig hq2
        go_wp2_with (go_at_call 54; refine HF.out.1.mono ?_; rintro e w2 ⟨rfl, h2⟩; subst h2)
        exact ⟨⟨j + 1, by omega, by go_num, HF.out.2, by first | rfl | trivial⟩, by simp [intOf]; omega⟩
    · obtain rfl : n = j := by omega
      have hf := H.out.2.1 fun i s hs => HQ.out i s hs (by have := (List.getElem?_eq_some_iff.1 hs).1; have := H.out.2.2.2; omega)
      have HF := Lib.hid hf; clear hf hlt
      go_wp2_with fail
      go_ret
      exact ⟨⟨_, rfl, by rw [HF.out]; rfl⟩, Below.refl _ _⟩
theorem pq.contains_any (l : List ByteArray) (A : Option Addr) (c : Nat) (w : World) (h : At w A l.length (fun j => .string (l.getD j ByteArray.empty))) (hl : l.length ≤ maxLen) :
    Calls Try.prog 53 #[.slice A l.length c, .func (.func 54) #[] #[]] w fun e w' => e = .returned (.bool (pq.long l)) ∧ Below w.heap.size w w' := by
  have HI := Lib.hid (pq.index_any l A c w h hl)
  clear h
  go_enter Try.func53, Try.ntmps53
  go_wp2_with (go_at_call 74; refine HI.out.mono ?_; rintro e w2 ⟨⟨r, rfl, h1⟩, h2⟩; have HR := Lib.hid (And.intro h1 h2); clear h1 h2)
  go_ret
  exact ⟨by rw [← HR.out.1]; rfl, HR.out.2⟩
theorem pq.long_any (l : List ByteArray) (A : Option Addr) (c : Nat) (w : World) (h : At w A l.length (fun j => .string (l.getD j ByteArray.empty))) (hl : l.length ≤ maxLen) :
    Calls Try.prog 26 #[.slice A l.length c] w fun e w' => e = .returned (.bool (pq.long l)) ∧ Below w.heap.size w w' := by
  have HI := Lib.hid (pq.contains_any l A c w h hl)
  clear h
  obtain ⟨r, hr⟩ : ∃ r, r = pq.long l := ⟨_, rfl⟩
  rw [← hr] at HI ⊢
  clear hr
  go_enter Try.func26, Try.ntmps26
  go_wp2_with (go_at_call 53; refine HI.out.mono ?_; rintro e w2 ⟨rfl, h2⟩; have HR := Lib.hid h2; clear h2)
  go_ret
  exact ⟨rfl, HR.out⟩
/-- A text, written. -/
def pq.text (s : ByteArray) : List Nat := num.put s.size ++ strNats s
theorem pq.text_len (s : ByteArray) : s.size + 1 ≤ (pq.text s).length ∧ (pq.text s).length ≤ s.size + 10 := by
  have := num.put_bd (s.size : Int)
  unfold pq.text
  rw [List.length_append, strNats_len]
  omega
theorem WrL.text {w3 w : World} {B p : Nat} {L : List Nat} (h : WrL w3 B p L w) (s : ByteArray) (hL : L.length + s.size ≤ 70368744177000) :
    Calls Try.prog 28 #[.pointer (some ⟨p, 0, none⟩), .string s] w fun e w' => e = .returned (.pointer (some ⟨p, 0, none⟩)) ∧ WrL w3 B p (L ++ pq.text s) w' := by
  obtain ⟨⟨v, q1⟩, q2, q3⟩ := h
  refine (wire.text_any B p v L false s w q1 (by omega)).mono ?_
  rintro e w' ⟨rfl, hd⟩
  refine ⟨rfl, ?_⟩
  unfold pq.text
  rw [← List.append_assoc]
  exact WrL.post q1 q2 q3 hd
def pq.texts (l : List ByteArray) : List Nat := (l.map pq.text).flatten
theorem pq.texts_succ {l : List ByteArray} {j : Nat} {s : ByteArray} (h : l[j]? = some s) : pq.texts (l.take (j + 1)) = pq.texts (l.take j) ++ pq.text s := by
  unfold pq.texts
  rw [List.take_add_one, h]
  simp
theorem pq.texts_len : ∀ (l : List ByteArray), (∀ s ∈ l, s.size ≤ 1000000) → (pq.texts l).length ≤ l.length * 1000010
  | [], _ => by simp [pq.texts]
  | s :: l, h => by
    have h1 := pq.texts_len l fun x hx => h x (by simp [hx])
    have h2 := (pq.text_len s).2
    have h3 := h s (by simp)
    show (pq.text s ++ pq.texts l).length ≤ _
    rw [List.length_append, List.length_cons]
    omega
theorem pq.writes_any {w3 w : World} {B p : Nat} {L : List Nat} (h : WrL w3 B p L w) (l : List ByteArray) (A : Option Addr) (c : Nat) (hat : At w3 A l.length (fun j => .string (l.getD j ByteArray.empty))) (hx : 0 < l.length → ∀ b off, A = some ⟨b, off, none⟩ → b < B) (hl : l.length ≤ 1000) (hs : ∀ s ∈ l, s.size ≤ 1000000) (hL : L.length ≤ 1000000000) :
    Calls Try.prog 30 #[.pointer (some ⟨p, 0, none⟩), .slice A l.length c] w fun e w' => e = .returned (.tuple #[]) ∧ WrL w3 B p (L ++ num.put l.length ++ pq.texts l) w' := by
  obtain ⟨n, hn⟩ : ∃ n, n = l.length := ⟨_, rfl⟩
  rw [← hn] at hat hx hl ⊢
  have hpb := num.put_bd (n : Int)
  have hnum := h.num (by omega) (n : Int) (by omega) (by omega)
  have H := Lib.hid (And.intro hat (And.intro hx (And.intro hs (And.intro hn hnum)))); clear hat hx hs hn hnum h
  go_enter Try.func30, Try.ntmps30
  go_wp2_with (go_at_call 29; refine H.out.2.2.2.2.mono ?_; rintro e w4 ⟨rfl, h1⟩; have H4 := Lib.hid h1; clear h1)
  go_loopw [12] (fun i wr => ∃ j : Nat, j ≤ n ∧ i = .int .i64 (j : Int) ∧ WrL w3 B p (L ++ num.put n ++ pq.texts (l.take j)) wr) (fun i _ => n - (intOf i).toNat)
  case atStart => exact ⟨0, by omega, rfl, by rw [show pq.texts (l.take 0) = [] from rfl, List.append_nil]; exact H4.out⟩
  case round =>
    obtain ⟨j, hj, rfl, hwr⟩ := hrel
    by_cases hlt : j < n
    · have hlt' : (j : Int) < (n : Int) := by omega
      obtain ⟨s, hsj⟩ : ∃ s, l[j]? = some s := ⟨_, List.getElem?_eq_getElem (by have := H.out.2.2.2.1; omega)⟩
      have hatr := hwr.2.1.at' H.out.1 fun hp b off hA hB => by have := H.out.2.1 hp b off hA; omega
      obtain ⟨b, off, rfl, hb, hc⟩ := hatr (by omega)
      have c0 : wr.cell? ⟨b, off + j, none⟩ = some (.string s) := by rw [hc j hlt]; simp [List.getD, hsj]
      clear hc hatr
      have hlen : (pq.texts (l.take j)).length ≤ 1000010000 := by
        have h1 := pq.texts_len (l.take j) fun x hx => H.out.2.2.1 x (List.mem_of_mem_take hx)
        have h2 : (l.take j).length ≤ 1000 := by rw [List.length_take]; omega
        omega
      have hss := H.out.2.2.1 s (List.mem_of_getElem? hsj)
      have htx := hwr.text s (by rw [List.length_append, List.length_append]; omega)
      rw [List.append_assoc (L ++ num.put n), ← pq.texts_succ hsj] at htx
      have HT := Lib.hid htx; clear htx hwr hlen hss hsj
      go_wp2_with (go_at_call 28; refine HT.out.mono ?_; rintro e w5 ⟨rfl, h1⟩; have H5 := Lib.hid h1; clear h1)
      exact ⟨⟨j + 1, by omega, by go_num, H5.out⟩, by simp [intOf]; omega⟩
    · obtain rfl : n = j := by omega
      rw [List.take_of_length_le (by have := H.out.2.2.2.1; omega)] at hwr
      have HW := Lib.hid hwr; clear hwr hlt
      go_wp2_with fail
      go_end0
      exact ⟨rfl, HW.out⟩
end Go.Proofs.Ytimcpbbcealkiaa

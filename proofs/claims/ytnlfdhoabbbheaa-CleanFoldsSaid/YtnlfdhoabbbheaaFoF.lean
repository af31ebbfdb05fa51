/- fold.Batches; the law package's small and awake (cordwainlaw13). -/
import Derived.Test.YtnlfdhoabbbheaaFrz
import Derived.Test.YtnlfdhoabbbheaaFoE
import Derived.Test.YtnlfdhoabbbheaaKbW
namespace Go.Proofs.Ytnlfdhoabbbheaa
open Go.RowKit Go.Maps
set_option maxRecDepth 20000

theorem fo.batches_any (A : Option Addr) (m c : Nat) (bs : List Bat) (w : World) (hlen : bs.length = m) (hsm : fo.Small bs) (hfl : (rc.flat bs).length ≤ 100000) (hat : BatsAt w A bs) :
    Calls Try.prog 23 #[.slice A m c] w (fo.OfPost (rc.flat bs) w) := by
  obtain ⟨f, hsrc⟩ : ∃ f, fo.Src f A bs w := hat
  have hof := fun (w1 : World) (hw1 : w1 = w.alloc (.cells #[.slice A m c] 31)) => fo.of_any w.heap.size A m c bs f w1 hlen hsm hfl (by rw [hw1]; exact Blk.new w _ _) (hsrc.below (by rw [hw1]; exact (Below.refl _ _).alloc (Nat.le_refl _) _))
  have HOF := Lib.hid hof; clear hof hsrc hlen hsm hfl
  go_enter Try.func23, Try.ntmps23
  go_wp2_with fail
  refine (fo.walk_any A m c w).mono ?_
  rintro e w1 ⟨rfl, hw1⟩
  have HW := Lib.hid hw1; clear hw1
  go_wp2_with fail
  refine (HOF.out w1 HW.out).mono ?_
  rintro e w2 ⟨v, l, rfl, hown, hby, his, hb⟩
  have hb1 : Below w.heap.size w w1 := by rw [HW.out]; exact (Below.refl _ _).alloc (Nat.le_refl _) _
  have H := Lib.hid (And.intro (ownsRow_base hown hb1.size) (And.intro hby (And.intro his (hb1.trans (hb.mono hb1.size))))); clear hown hby his hb hb1
  go_wp2
  go_ret
  exact ⟨v, l, rfl, H.out.1, H.out.2.1, H.out.2.2.1, H.out.2.2.2⟩

/-- Batches that are looked at. -/
def fo.May (bs : List Bat) : Prop := bs.length ≤ 60 ∧ (bs.map Bat.weight).sum ≤ 4000
theorem Bat.weight_ge (b : Bat) : 1 ≤ b.weight := by
  have h := weights_ge b.recs
  unfold Bat.weight
  omega
theorem weights_bytes (rs : List Rec) (r : Rec) (h : r ∈ rs) : (r.key.length : Int) + (r.val.length : Int) ≤ (rs.map Rec.weight).sum := by
  induction rs with
  | nil => cases h
  | cons x rs ih =>
    have h1 := weights_ge rs
    simp only [List.map_cons, List.sum_cons]
    rcases List.mem_cons.1 h with rfl | h
    · unfold Rec.weight at *
      omega
    · have := ih h
      have := x.weight_pos
      omega
theorem weight_one : ∀ (bs : List Bat) (b : Bat), b ∈ bs → b.weight ≤ (bs.map Bat.weight).sum
  | [], b, h => by cases h
  | x :: bs, b, h => by
    have h0 : 0 ≤ (bs.map Bat.weight).sum := by
      clear h
      induction bs with
      | nil => simp
      | cons y bs ih => simp only [List.map_cons, List.sum_cons]; have := y.weight_ge; omega
    simp only [List.map_cons, List.sum_cons]
    rcases List.mem_cons.1 h with rfl | h
    · omega
    · have := weight_one bs b h
      have := x.weight_ge
      omega
theorem fo.May.small {bs : List Bat} (h : fo.May bs) : fo.Small bs ∧ (rc.flat bs).length ≤ 4000 ∧ ∀ r ∈ rc.flat bs, r.key.length ≤ 4000 ∧ r.val.length ≤ 4000 := by
  obtain ⟨h1, h2⟩ := h
  have hb : ∀ b ∈ bs, (b.recs.length : Int) ≤ 4000 ∧ ∀ r ∈ b.recs, (r.key.length : Int) ≤ 4000 ∧ (r.val.length : Int) ≤ 4000 := fun b hb => by
    have h3 := weight_one bs b hb
    have h4 := weights_ge b.recs
    have h5 : b.weight = min (1 + (b.recs.map Rec.weight).sum) 1099511627776 := rfl
    refine ⟨by omega, fun r hr => ?_⟩
    have h6 := weights_bytes b.recs r hr
    omega
  have hf := weight_flat bs _ (Int.le_refl _) h2
  refine ⟨⟨by omega, fun b h => ⟨by have := (hb b h).1; omega, fun r hr => by have := (hb b h).2 r hr; omega⟩⟩, by have := hf.1; omega, fun r hr => ?_⟩
  unfold rc.flat at hr
  obtain ⟨l, hl, hx⟩ := List.mem_flatten.1 hr
  obtain ⟨b, hbb, rfl⟩ := List.mem_map.1 hl
  have := (hb b hbb).2 r hx
  omega
def law13.SmallPost (bs : List Bat) (w : World) (e : Ending) (w' : World) : Prop := (∃ b : Bool, e = .returned (.bool b) ∧ (b = true → fo.May bs)) ∧ Below w.heap.size w w'
theorem fo.ab : strOf [98] ≠ strOf [97] := fun h => by
  have := strOf_inj (by simp) (by simp) h
  simp at this
/-- The batches that awake makes. -/
def fo.recs3 : List Rec := [⟨0, 0, true, [97], true, [49]⟩, ⟨1, 0, true, [97], true, [50]⟩, ⟨2, 0, true, [98], false, []⟩]
theorem fo.map3 (s : ByteArray) : fo.map fo.recs3 s = if s = strOf [97] then some ([97], [50], 1) else none := by
  unfold fo.map fo.recs3
  simp only [List.foldl_cons, List.foldl_nil, fo.one, if_true]
  by_cases h : s = strOf [97]
  · subst h
    rw [if_neg (fun e => fo.ab e.symm), if_pos rfl, if_pos rfl]
  · rw [if_neg h, if_neg h]
    split
    · rfl
    · rfl
theorem fo.is3 {l : List PItm} (h : FoIs l fo.recs3) : ∃ x, l = [x] ∧ x.is = ([97], [50], 1) := by
  obtain ⟨x, hx, hk⟩ := h.all (strOf [97]) ([97], [50], 1) (by rw [fo.map3, if_pos rfl])
  have hone : ∀ y ∈ l, y.key = strOf [97] := fun y hy => by
    have h1 := h.says y hy
    rw [fo.map3] at h1
    split at h1
    · assumption
    · cases h1
  have hr := h.rises
  have hx1 := h.says x hx
  rw [fo.map3, if_pos (hone x hx)] at hx1
  match l, hx, hone, hr with
  | [], hx, _, _ => cases hx
  | [y], hx, _, _ =>
    obtain rfl := List.mem_singleton.1 hx
    exact ⟨x, rfl, (Option.some.inj hx1).symm⟩
  | y :: z :: l, _, hone, hr =>
    have h1 := (List.pairwise_cons.1 hr).1 z (List.mem_cons_self ..)
    rw [hone y (List.mem_cons_self ..), hone z (by simp), pf.lt_irrefl] at h1
    cases h1
theorem fo.byte1 (w : World) (x : Nat) (t : TypeId) (fr : Nat × Nat) (g : Nat) (hg : g = w.heap.size) : At (w.alloc (.cells #[.int .u8 (x : Int)] t fr)) (some ⟨g, 0, none⟩) [x].length (byteAt [x]) := by
  subst hg
  exact (At.new w #[.int .u8 (x : Int)] t (n := 1) rfl).congr fun j hj => by
    obtain rfl : j = 0 := by simp at hj; omega
    rfl
set_option maxHeartbeats 1000000 in
theorem fo.bats3 (g : Nat) (w w1 w2 w3 w4 w5 w6 : World) (hg : g = w.heap.size) (h1 : w1 = w.alloc (.cells #[.int .u8 97] 5 (1, 2))) (h2 : w2 = w1.alloc (.cells #[.int .u8 49] 5 (1, 2))) (h3 : w3 = w2.alloc (.cells #[.int .u8 50] 5 (1, 2))) (h4 : w4 = w3.alloc (.cells #[.int .u8 98] 5 (1, 2)))
    (h5 : w5 = w4.alloc (.cells #[.int .i64 0, .int .i64 0, .bool true, .slice (some ⟨g, 0, none⟩) 1 1, .bool true, .slice (some ⟨g + 1, 0, none⟩) 1 1, .int .i64 1, .int .i64 0, .bool true, .slice (some ⟨g, 0, none⟩) 1 1, .bool true, .slice (some ⟨g + 1 + 1, 0, none⟩) 1 1, .int .i64 2, .int .i64 0, .bool true, .slice (some ⟨g + 1 + 1 + 1, 0, none⟩) 1 1, .bool false, .slice none 0 0] 34)) (h6 : w6 = w5.alloc (.cells #[.int .i64 0, .int .i64 0, .int .i64 0, .int .i64 0, .int .i64 0, .slice (some ⟨g + 1 + 1 + 1 + 1, 0, none⟩) 3 3] 46)) :
    BatsAt w6 (some ⟨g + 1 + 1 + 1 + 1 + 1, 0, none⟩) [⟨0, 0, 0, 0, 0, fo.recs3⟩] ∧ Below w.heap.size w w6 := by
  have s1 : w1.heap.size = g + 1 := by rw [h1, hg]; simp
  have s2 : w2.heap.size = g + 1 + 1 := by rw [h2]; simp [s1]
  have s3 : w3.heap.size = g + 1 + 1 + 1 := by rw [h3]; simp [s2]
  have s4 : w4.heap.size = g + 1 + 1 + 1 + 1 := by rw [h4]; simp [s3]
  have s5 : w5.heap.size = g + 1 + 1 + 1 + 1 + 1 := by rw [h5]; simp [s4]
  have b6 : Below w5.heap.size w5 w6 := by rw [h6]; exact (Below.refl _ _).alloc (Nat.le_refl _) _
  have b5 : Below w4.heap.size w4 w6 := ((Below.refl _ w4).trans (show Below w4.heap.size w4 w5 by rw [h5]; exact (Below.refl _ _).alloc (Nat.le_refl _) _)).trans (b6.mono (by omega))
  have b4 : Below w3.heap.size w3 w6 := (show Below w3.heap.size w3 w4 by rw [h4]; exact (Below.refl _ _).alloc (Nat.le_refl _) _).trans (b5.mono (by omega))
  have b3 : Below w2.heap.size w2 w6 := (show Below w2.heap.size w2 w3 by rw [h3]; exact (Below.refl _ _).alloc (Nat.le_refl _) _).trans (b4.mono (by omega))
  have b2 : Below w1.heap.size w1 w6 := (show Below w1.heap.size w1 w2 by rw [h2]; exact (Below.refl _ _).alloc (Nat.le_refl _) _).trans (b3.mono (by omega))
  have b1 : Below w.heap.size w w6 := (show Below w.heap.size w w1 by rw [h1]; exact (Below.refl _ _).alloc (Nat.le_refl _) _).trans (b2.mono (by omega))
  have a1 : At w6 (some ⟨g, 0, none⟩) 1 (byteAt [97]) := At.below (by rw [h1]; exact fo.byte1 w 97 _ _ g hg) b2 (Nat.le_refl _)
  have a2 : At w6 (some ⟨g + 1, 0, none⟩) 1 (byteAt [49]) := At.below (by rw [h2]; exact fo.byte1 w1 49 _ _ _ s1.symm) b3 (Nat.le_refl _)
  have a3 : At w6 (some ⟨g + 1 + 1, 0, none⟩) 1 (byteAt [50]) := At.below (by rw [h3]; exact fo.byte1 w2 50 _ _ _ s2.symm) b4 (Nat.le_refl _)
  have a4 : At w6 (some ⟨g + 1 + 1 + 1, 0, none⟩) 1 (byteAt [98]) := At.below (by rw [h4]; exact fo.byte1 w3 98 _ _ _ s3.symm) b5 (Nat.le_refl _)
  have a5 : At w6 (some ⟨g + 1 + 1 + 1 + 1, 0, none⟩) 18 (fun j => (#[.int .i64 0, .int .i64 0, .bool true, .slice (some ⟨g, 0, none⟩) 1 1, .bool true, .slice (some ⟨g + 1, 0, none⟩) 1 1, .int .i64 1, .int .i64 0, .bool true, .slice (some ⟨g, 0, none⟩) 1 1, .bool true, .slice (some ⟨g + 1 + 1, 0, none⟩) 1 1, .int .i64 2, .int .i64 0, .bool true, .slice (some ⟨g + 1 + 1 + 1, 0, none⟩) 1 1, .bool false, .slice none 0 0] : Array Value).getD j undef) := At.below (by rw [h5, ← s4]; exact At.new w4 _ _ rfl) b6 (Nat.le_refl _)
  have a6 : At w6 (some ⟨g + 1 + 1 + 1 + 1 + 1, 0, none⟩) 6 (fun j => (#[.int .i64 0, .int .i64 0, .int .i64 0, .int .i64 0, .int .i64 0, .slice (some ⟨g + 1 + 1 + 1 + 1, 0, none⟩) 3 3] : Array Value).getD j undef) := by rw [h6, ← s5]; exact At.new w5 _ _ rfl
  have v1 : ∀ (x : Nat) (p : Nat), x < 256 → At w6 (some ⟨p, 0, none⟩) 1 (byteAt [x]) → BytesV w6 (.slice (some ⟨p, 0, none⟩) 1 1) [x] := fun x p hx h => ⟨_, 1, rfl, h, Nat.le_refl _, by unfold maxLen; omega, by simpa using hx⟩
  have v0 : BytesV w6 (.slice none 0 0) [] := ⟨none, 0, rfl, fun h => absurd h (by simp), Nat.le_refl _, Nat.zero_le _, by simp⟩
  have i0 : ∀ z : Int, 0 ≤ z → z ≤ 2 → i64ok z := fun z h1 h2 => ⟨by omega, by omega⟩
  refine ⟨⟨_, a6, fun i b hi => ?_⟩, b1⟩
  match i, hi with
  | 0, hi =>
    obtain rfl : (⟨0, 0, 0, 0, 0, fo.recs3⟩ : Bat) = b := by simpa using hi
    refine ⟨_, rfl, ⟨_, 3, _, rfl, Nat.le_refl _, by unfold maxLen; omega, a5, fun j r hr => ?_⟩, i0 _ (by decide) (by decide), i0 _ (by decide) (by decide), i0 _ (by decide) (by decide), i0 _ (by decide) (by decide), i0 _ (by decide) (by decide)⟩
    match j, hr with
    | 0, hr =>
      obtain rfl : (⟨0, 0, true, [97], true, [49]⟩ : Rec) = r := by simpa [fo.recs3] using hr
      exact ⟨_, _, rfl, v1 97 _ (by omega) a1, v1 49 _ (by omega) a2, i0 _ (by decide) (by decide), i0 _ (by decide) (by decide)⟩
    | 1, hr =>
      obtain rfl : (⟨1, 0, true, [97], true, [50]⟩ : Rec) = r := by simpa [fo.recs3] using hr
      exact ⟨_, _, rfl, v1 97 _ (by omega) a1, v1 50 _ (by omega) a3, i0 _ (by decide) (by decide), i0 _ (by decide) (by decide)⟩
    | 2, hr =>
      obtain rfl : (⟨2, 0, true, [98], false, []⟩ : Rec) = r := by simpa [fo.recs3] using hr
      exact ⟨_, _, rfl, v1 98 _ (by omega) a4, v0, i0 _ (by decide) (by decide), i0 _ (by decide) (by decide)⟩
    | j + 3, hr => simp [fo.recs3] at hr
  | i + 1, hi => simp at hi
end Go.Proofs.Ytnlfdhoabbbheaa

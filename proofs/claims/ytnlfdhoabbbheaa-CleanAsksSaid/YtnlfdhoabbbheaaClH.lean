/- Two records of one key, cleaned; the law package's awake (cordwainlaw14). -/
import Derived.Test.YtnlfdhoabbbheaaClF
import Derived.Test.YtnlfdhoabbbheaaFrz
namespace Go.Proofs.Ytnlfdhoabbbheaa
section
open Go.RowKit Go.Maps

def cg.r (o t : Int) (k : List Nat) (hv : Bool) (v : List Nat) : Rec := ⟨o, t, true, k, hv, v⟩
/-- One batch of both. -/
def cg.l1 (k : List Nat) : List Bat := [⟨0, 1, 0, 0, 0, [cg.r 0 0 k true [], cg.r 1 0 k true []]⟩]
/-- Two batches of one each. -/
def cg.l2 (k : List Nat) (t : Int) (hv : Bool) (v v2 : List Nat) : List Bat := [⟨0, 0, 0, 0, 0, [cg.r 0 0 k true v]⟩, ⟨1, 1, 0, 0, 0, [cg.r 1 t k hv v2]⟩]
theorem cg.go1 (k : List Nat) : ∃ g, kb.go 0 5 0 (fun _ => none) 0 (cg.l1 k) = (1, g, 2) ∧ g (strOf k) = some 1 := by
  refine ⟨(kb.go 0 5 0 (fun _ => none) 0 (cg.l1 k)).2.1, ?_, ?_⟩
  · simp [cg.l1, kb.go, kb.scan, kb.offers, kb.use, kb.more, key.cnt, key.put, cg.r, upd]
    omega
  · simp [cg.l1, kb.go, kb.scan, kb.offers, kb.use, kb.more, key.cnt, key.put, cg.r, upd]
theorem cg.go2 (k : List Nat) (t : Int) (hv : Bool) (v v2 : List Nat) : ∃ g, kb.go 0 9 0 (fun _ => none) 0 (cg.l2 k t hv v v2) = (1, g, 2) ∧ g (strOf k) = some 1 := by
  refine ⟨(kb.go 0 9 0 (fun _ => none) 0 (cg.l2 k t hv v v2)).2.1, ?_, ?_⟩
  · simp [cg.l2, kb.go, kb.scan, kb.offers, kb.use, kb.more, key.cnt, key.put, cg.r, upd]
    omega
  · simp [cg.l2, kb.go, kb.scan, kb.offers, kb.use, kb.more, key.cnt, key.put, cg.r, upd]
theorem cg.left1 (k : List Nat) (g : ByteArray → Option Int) (now grace : Int) (h : g (strOf k) = some 1) : ps.all (cl.stays g 2 now grace) (cg.l1 k) = [⟨0, 1, 0, 0, 0, [cg.r 1 0 k true []]⟩] := by
  simp [cg.l1, ps.all, ps.cut, cl.stays, cg.r, h]
theorem cg.left2 (k : List Nat) (g : ByteArray → Option Int) (t now grace : Int) (hv : Bool) (v v2 : List Nat) (h : g (strOf k) = some 1) : ps.all (cl.stays g 2 now grace) (cg.l2 k t hv v v2) = if hv = false ∧ grace < now - t then [] else [⟨1, 1, 0, 0, 0, [cg.r 1 t k hv v2]⟩] := by
  by_cases hc : hv = false ∧ grace < now - t
  · rw [if_pos hc]
    simp [cg.l2, ps.all, ps.cut, cl.stays, cg.r, h, hc]
  · rw [if_neg hc]
    simp [cg.l2, ps.all, ps.cut, cl.stays, cg.r, h, hc]
/-- One segment cleaned, and an active one with nothing in it. -/
theorem cg.outs (F : Rec → Bool) (l : List Bat) : cl.outs F [l, []] 2 = [ps.all F l, []] := by simp [cl.outs, cl.seg, List.range_succ]
theorem cg.gone (F : Rec → Bool) (l : List Bat) : cl.gone F [l, []] 2 = ((rc.flat l).length : Int) - ((rc.flat (ps.all F l)).length : Int) := by simp [cl.gone, cl.seg, List.range_succ]
end
section
open Go.RowKit Go.Maps
set_option maxRecDepth 100000

theorem cg.byte1 (w : World) (x : Nat) (t : TypeId) (fr : Nat × Nat) (g : Nat) (hg : g = w.heap.size) : At (w.alloc (.cells #[.int .u8 (x : Int)] t fr)) (some ⟨g, 0, none⟩) [x].length (byteAt [x]) := by
  subst hg
  exact (At.new w #[.int .u8 (x : Int)] t (n := 1) rfl).congr fun j hj => by
    obtain rfl : j = 0 := by simp at hj; omega
    rfl
theorem cg.lies1 (g : Nat) (w w1 w2 w3 w4 : World) (hg : g = w.heap.size) (h1 : w1 = w.alloc (.cells #[.int .u8 97] 5 (1, 2)))
    (h2 : w2 = w1.alloc (.cells #[.int .i64 0, .int .i64 0, .bool true, .slice (some ⟨g, 0, none⟩) 1 1, .bool true, .slice none 0 0, .int .i64 1, .int .i64 0, .bool true, .slice (some ⟨g, 0, none⟩) 1 1, .bool true, .slice none 0 0] 34)) (h3 : w3 = w2.alloc (.cells #[.int .i64 0, .int .i64 1, .int .i64 0, .int .i64 0, .int .i64 0, .slice (some ⟨g + 1, 0, none⟩) 2 2] 46)) (h4 : w4 = w3.alloc (.cells #[.slice (some ⟨g + 1 + 1, 0, none⟩) 1 1, .slice none 0 0] 31)) :
    cl.SegsAt w4 (some ⟨g + 1 + 1 + 1, 0, none⟩) [cg.l1 [97], []] ∧ Below w.heap.size w w4 := by
  have s1 : w1.heap.size = g + 1 := by rw [h1, hg]; simp
  have s2 : w2.heap.size = g + 1 + 1 := by rw [h2]; simp [s1]
  have s3 : w3.heap.size = g + 1 + 1 + 1 := by rw [h3]; simp [s2]
  have b4 : Below w3.heap.size w3 w4 := by rw [h4]; exact (Below.refl _ _).alloc (Nat.le_refl _) _
  have b3 : Below w2.heap.size w2 w4 := (show Below w2.heap.size w2 w3 by rw [h3]; exact (Below.refl _ _).alloc (Nat.le_refl _) _).trans (b4.mono (by omega))
  have b2 : Below w1.heap.size w1 w4 := (show Below w1.heap.size w1 w2 by rw [h2]; exact (Below.refl _ _).alloc (Nat.le_refl _) _).trans (b3.mono (by omega))
  have b1 : Below w.heap.size w w4 := (show Below w.heap.size w w1 by rw [h1]; exact (Below.refl _ _).alloc (Nat.le_refl _) _).trans (b2.mono (by omega))
  have a1 : At w4 (some ⟨g, 0, none⟩) 1 (byteAt [97]) := At.below (by rw [h1]; exact cg.byte1 w 97 _ _ g hg) b2 (Nat.le_refl _)
  have a2 : At w4 (some ⟨g + 1, 0, none⟩) 12 (fun j => (#[.int .i64 0, .int .i64 0, .bool true, .slice (some ⟨g, 0, none⟩) 1 1, .bool true, .slice none 0 0, .int .i64 1, .int .i64 0, .bool true, .slice (some ⟨g, 0, none⟩) 1 1, .bool true, .slice none 0 0] : Array Value).getD j undef) := At.below (by rw [h2, ← s1]; exact At.new w1 _ _ rfl) b3 (Nat.le_refl _)
  have a3 : At w4 (some ⟨g + 1 + 1, 0, none⟩) 6 (fun j => (#[.int .i64 0, .int .i64 1, .int .i64 0, .int .i64 0, .int .i64 0, .slice (some ⟨g + 1, 0, none⟩) 2 2] : Array Value).getD j undef) := At.below (by rw [h3, ← s2]; exact At.new w2 _ _ rfl) b4 (Nat.le_refl _)
  have a4 : At w4 (some ⟨g + 1 + 1 + 1, 0, none⟩) 2 (fun j => (#[.slice (some ⟨g + 1 + 1, 0, none⟩) 1 1, .slice none 0 0] : Array Value).getD j undef) := by rw [h4, ← s3]; exact At.new w3 _ _ rfl
  have v1 : ∀ (x : Nat) (p : Nat), x < 256 → At w4 (some ⟨p, 0, none⟩) 1 (byteAt [x]) → BytesV w4 (.slice (some ⟨p, 0, none⟩) 1 1) [x] := fun x p hx h => ⟨_, 1, rfl, h, Nat.le_refl _, by unfold maxLen; omega, by simpa using hx⟩
  have v0 : BytesV w4 (.slice none 0 0) [] := ⟨none, 0, rfl, fun h => absurd h (by simp), Nat.le_refl _, Nat.zero_le _, by simp⟩
  have i0 : ∀ z : Int, 0 ≤ z → z ≤ 2 → i64ok z := fun z h1 h2 => ⟨by omega, by omega⟩
  have hb : BatsAt w4 (some ⟨g + 1 + 1, 0, none⟩) (cg.l1 [97]) := by
    refine ⟨_, a3, fun i b hi => ?_⟩
    match i, hi with
    | 0, hi =>
      obtain rfl : (⟨0, 1, 0, 0, 0, [cg.r 0 0 [97] true [], cg.r 1 0 [97] true []]⟩ : Bat) = b := by simpa [cg.l1] using hi
      refine ⟨_, rfl, ⟨_, 2, _, rfl, Nat.le_refl _, by unfold maxLen; omega, a2, fun j r hr => ?_⟩, i0 _ (by decide) (by decide), i0 _ (by decide) (by decide), i0 _ (by decide) (by decide), i0 _ (by decide) (by decide), i0 _ (by decide) (by decide)⟩
      match j, hr with
      | 0, hr =>
        obtain rfl : cg.r 0 0 [97] true [] = r := by simpa using hr
        exact ⟨_, _, rfl, v1 97 _ (by omega) a1, v0, i0 _ (by decide) (by decide), i0 _ (by decide) (by decide)⟩
      | 1, hr =>
        obtain rfl : cg.r 1 0 [97] true [] = r := by simpa using hr
        exact ⟨_, _, rfl, v1 97 _ (by omega) a1, v0, i0 _ (by decide) (by decide), i0 _ (by decide) (by decide)⟩
      | j + 2, hr => simp at hr
    | i + 1, hi => simp [cg.l1] at hi
  refine ⟨⟨_, a4, fun i bs hi => ?_⟩, b1⟩
  match i, hi with
  | 0, hi =>
    obtain rfl : cg.l1 [97] = bs := by simpa using hi
    exact ⟨_, 1, rfl, Nat.le_refl _, by unfold maxLen; omega, hb⟩
  | 1, hi =>
    obtain rfl : [] = bs := by simpa using hi
    exact ⟨none, 0, rfl, Nat.le_refl _, Nat.zero_le _, fun _ => undef, fun h => absurd h (by simp), fun i b h => by simp at h⟩
  | i + 2, hi => simp at hi
set_option maxHeartbeats 2000000 in
theorem law14.awake_any (w : World) : Calls Try.prog 9 #[] w fun e w' => e = .returned (.bool true) ∧ Below w.heap.size w w' := by
  have k1 : (convert 32 32 (.slice (some ⟨w.heap.size, 0, none⟩) 1 1)).run Try.prog (w.alloc (.cells #[.int .u8 97] 5)) = .ok (.slice (some ⟨w.heap.size, 0, none⟩) 1 1) (w.alloc (.cells #[.int .u8 97] 5 (1, 2))) := conv_mark 32 5 Try.underlying32 Try.underlying5 w #[.int .u8 97] 1 1 _ (by simp)
  go_enter Try.func9, Try.ntmps9
  go_wp2_with fail
  obtain ⟨g, hg⟩ : ∃ g, g = w.heap.size := ⟨_, rfl⟩
  rw [← hg]
  obtain ⟨w1, hw1⟩ : ∃ w1, w1 = w.alloc (.cells #[.int .u8 97] 5 (1, 2)) := ⟨_, rfl⟩
  rw [← hw1]
  obtain ⟨w2, hw2⟩ : ∃ w2, w2 = w1.alloc (.cells #[.int .i64 0, .int .i64 0, .bool true, .slice (some ⟨g, 0, none⟩) 1 1, .bool true, .slice none 0 0, .int .i64 1, .int .i64 0, .bool true, .slice (some ⟨g, 0, none⟩) 1 1, .bool true, .slice none 0 0] 34) := ⟨_, rfl⟩
  rw [← hw2]
  obtain ⟨w3, hw3⟩ : ∃ w3, w3 = w2.alloc (.cells #[.int .i64 0, .int .i64 1, .int .i64 0, .int .i64 0, .int .i64 0, .slice (some ⟨g + 1, 0, none⟩) 2 2] 46) := ⟨_, rfl⟩
  rw [← hw3]
  obtain ⟨w4, hw4⟩ : ∃ w4, w4 = w3.alloc (.cells #[.slice (some ⟨g + 1 + 1, 0, none⟩) 1 1, .slice none 0 0] 31) := ⟨_, rfl⟩
  rw [← hw4]
  obtain ⟨hseg, hb4⟩ := cg.lies1 g w w1 w2 w3 w4 hg hw1 hw2 hw3 hw4
  have HB4 := Lib.hid hb4; clear hb4 hw1 hw2 hw3 hw4 hg
  obtain ⟨G, hgo, hgk⟩ := cg.go1 [97]
  have hall := cl.all_any (some ⟨g + 1 + 1 + 1, 0, none⟩) 2 2 [cg.l1 [97], []] 0 0 5 5 0 0 0 0 0 0 false false w4 hseg rfl (by omega) (by simp [cg.l1, cg.r, fo.Small]) (by simp [cg.l1, rc.flat]) (by simp [cg.l1, cg.r]) (by unfold kb.Most; omega) ⟨by omega, by omega⟩ ⟨by omega, by omega⟩
  have hbeh : (([cg.l1 [97], []] : List (List Bat)).take (2 - 1)).flatten = cg.l1 [97] := by simp
  rw [hbeh, hgo] at hall
  unfold cl.AllPost at hall
  dsimp only at hall
  rw [cg.outs, cg.gone, cg.left1 [97] G 0 0 hgk] at hall
  rw [show ((rc.flat (cg.l1 [97])).length : Int) - ((rc.flat [(⟨0, 1, 0, 0, 0, [cg.r 1 0 [97] true []]⟩ : Bat)]).length : Int) = 1 from by simp [cg.l1, rc.flat]] at hall
  have HALL := Lib.hid hall; clear hall hseg hbeh hgo hgk
  refine HALL.out.mono ?_
  rintro e w5 ⟨A5, c5, rfl, -, -, hs5, hb5⟩
  have HB5 := Lib.hid (HB4.out.trans (hb5.mono HB4.out.size)); clear hb5 HB4 HALL
  obtain ⟨p, po, D, cD, hA, hp, d0, -, -, hbd⟩ := hs5.at' (i := 0) (bs := [⟨0, 1, 0, 0, 0, [cg.r 1 0 [97] true []]⟩]) rfl
  subst hA
  obtain ⟨q, qo, v, hD, hq, -, d1, -, -, -, d5, ⟨A6, c6, V6, rfl, -⟩, -⟩ := hbd.at' (k := 0) (x := ⟨0, 1, 0, 0, 0, [cg.r 1 0 [97] true []]⟩) rfl
  subst hD
  simp only [List.length_singleton, Nat.zero_mul, Nat.add_zero] at d0 d1 d5
  clear hbd hs5 k1
  go_wp2_with fail
  go_ret
  exact ⟨rfl, HB5.out⟩
end
end Go.Proofs.Ytnlfdhoabbbheaa

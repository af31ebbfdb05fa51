/- A quota that knows at most one client; the law package's awake (cordwainlaw19). -/
import Derived.Test.YtmlkgealjbjlgaaQuU
namespace Go.Proofs.Ytmlkgealjbjlgaa
open Go.RowKit Go.Maps

/-- Only s may be known; it has x left. -/
def QA (w : World) (p b : Nat) (r B m t : Int) (s : ByteArray) (x : Int) : Prop :=
  ∃ N g, QM w p b r B m t N g ∧ QOk r B m t g ∧ (∀ u, u ≠ s → g u = none) ∧ (g s).getD B = x
theorem only_one {w : World} {b N : Nat} {g : ByteArray → Option Int} {s : ByteArray} (h : SM w b N g) (ho : ∀ u, u ≠ s → g u = none) : N ≤ 1 ∧ (g s = none → N = 0) := by
  obtain ⟨ks, hk, rfl⟩ := h.keys
  have hall : ∀ u ∈ ks, u = s := fun u hu => by
    by_cases e : u = s
    · exact e
    · have := ((hk.2 u).1 hu).2
      rw [ho u e] at this
      cases this
  have h1 : ks.length ≤ 1 := by
    match ks, hk, hall with
    | [], _, _ => simp
    | [a], _, _ => simp
    | a :: c :: l, hk, hall =>
      have e1 := hall a (by simp)
      have e2 := hall c (by simp)
      have := hk.1
      rw [e1, e2] at this
      simp at this
  refine ⟨h1, fun hg => ?_⟩
  match ks, hk, hall with
  | [], _, _ => rfl
  | a :: l, hk, hall =>
    have := ((hk.2 a).1 (by simp)).2
    rw [hall a (by simp), hg] at this
    cases this
theorem QA.bd {w : World} {p b : Nat} {r B m t : Int} {s : ByteArray} {x : Int} (h : QA w p b r B m t s x) : 0 ≤ x ∧ x ≤ B := by
  obtain ⟨N, g, h1, h2, h3, h4⟩ := h
  have := h2.b0
  cases hg : g s with
  | none => rw [hg] at h4; simp only [Option.getD_none] at h4; omega
  | some c => rw [hg] at h4; simp only [Option.getD_some] at h4; have := h2.ok s c hg; omega
theorem QA.keep {w w' : World} {p b : Nat} {r B m t : Int} {s : ByteArray} {x : Int} (h : QA w p b r B m t s x) (hb : Below w.heap.size w w') : QA w' p b r B m t s x := by
  obtain ⟨N, g, h1, h2⟩ := h
  exact ⟨N, g, h1.keep hb, h2⟩
theorem QA.pok {w : World} {p b : Nat} {r B m t : Int} {s : ByteArray} {x : Int} (h : QA w p b r B m t s x) : p < w.heap.size ∧ b < w.heap.size := by
  obtain ⟨N, g, h1, h2⟩ := h
  exact ⟨h1.blk.lt, h1.map.lt⟩
theorem QA.start {w : World} {p b : Nat} {r B m : Int} (s : ByteArray) (h : QM w p b r B m 0 0 (fun _ => none)) (hr : 0 ≤ r ∧ r ≤ 1073741824) (hB : 1 ≤ B ∧ B ≤ 1099511627776) (hm : 1 ≤ m ∧ m ≤ 1000) : QA w p b r B m 0 s B :=
  ⟨0, _, h, ⟨hr.1, hr.2, hB.1, hB.2, hm.1, hm.2, by omega, by omega, fun s c h => by cases h⟩, fun _ _ => rfl, rfl⟩
theorem qu.after_getD {r B m t : Int} {g : ByteArray → Option Int} (ok : QOk r B m t g) (d : Int) (hd : 0 ≤ d) (s : ByteArray) : (qu.after r B d g s).getD B = qu.gain r B ((g s).getD B) d := by
  unfold qu.after qu.step
  have h1 := Int.mul_nonneg hd ok.r0
  cases hg : g s with
  | none =>
    simp only [Option.bind_none, Option.getD_none]
    unfold qu.gain; omega
  | some c =>
    simp only [Option.bind_some, Option.getD_some]
    split
    · rename_i e; rw [Option.getD_none, e]
    · rw [Option.getD_some]
theorem qu.after_none {r B d : Int} {g : ByteArray → Option Int} {s : ByteArray} (h : g s = none) : qu.after r B d g s = none := by unfold qu.after; rw [h]; rfl
theorem qu.to_ge (t now : Int) : 0 ≤ qu.to t now - t := by unfold qu.to; omega
/-- What the client has at the time asked for. -/
def qu.x1 (r B t x now : Int) : Int := qu.gain r B x (qu.to t now - t)

theorem QA.pass {w w' : World} {p b : Nat} {r B m t : Int} {s : ByteArray} {x now : Int} {N : Nat} {g : ByteArray → Option Int} (ok : QOk r B m t g) (ho : ∀ u, u ≠ s → g u = none) (hx : (g s).getD B = x) (h : qu.PassPost w p b r B m t now N g w') :
    QA w' p b r B m (qu.to t now) s (qu.x1 r B t x now) := by
  obtain ⟨N', h1, h2, h3⟩ := h
  exact ⟨N', _, h1, ok.after now, fun u hu => qu.after_none (ho u hu), by rw [qu.after_getD ok _ (qu.to_ge t now), hx]; rfl⟩

def QA.UsePost (w : World) (p b : Nat) (r B m t : Int) (s : ByteArray) (x n now : Int) (e : Ending) (w' : World) : Prop :=
  e = .returned (.int .i64 (if n ≤ qu.x1 r B t x now then 0 else 15)) ∧ QA w' p b r B m (qu.to t now) s (if n ≤ qu.x1 r B t x now then qu.x1 r B t x now - n else qu.x1 r B t x now) ∧ Chg w w' (quT p b)
theorem QA.use (p b : Nat) (r B m t : Int) (s : ByteArray) (x n now : Int) (w : World) (h : QA w p b r B m t s x) (hs : s.size ≤ maxLen) (hn : 0 ≤ n ∧ n ≤ 9223372036854775807) (hnow : -9223372036854775808 ≤ now ∧ now ≤ 9223372036854775807) :
    Calls Try.prog 28 #[.pointer (some ⟨p, 0, none⟩), .string s, .int .i64 n, .int .i64 now] w (QA.UsePost w p b r B m t s x n now) := by
  obtain ⟨N, g, h1, ok, ho, hx⟩ := h
  have h01 := only_one h1.map ho
  refine (qu.use_any p b r B m t N g s n now w h1 ok (by omega) hs (by omega) hnow).mono ?_
  rintro e w' ⟨N', hN', hch, h⟩
  have hag := qu.after_getD ok (qu.to t now - t) (qu.to_ge t now) s
  rw [hx] at hag
  have hok' := ok.after now
  have ho' : ∀ u, u ≠ s → qu.after r B (qu.to t now - t) g u = none := fun u hu => qu.after_none (ho u hu)
  have hm0 := ok.m0
  unfold QA.UsePost
  have e1 : qu.x1 r B t x now = (qu.after r B (qu.to t now - t) g s).getD B := by rw [hag]; rfl
  rw [e1]
  have hbd : 0 ≤ (qu.after r B (qu.to t now - t) g s).getD B := by
    cases hg : qu.after r B (qu.to t now - t) g s with
    | none => have := ok.b0; simp only [Option.getD_none]; omega
    | some c => have := hok'.ok s c hg; simp only [Option.getD_some]; omega
  rcases h with ⟨h, -⟩ | ⟨rfl, rfl, hq⟩ | ⟨h0, h2, rfl, hq⟩ | ⟨h0, h2, h3, rfl, hq⟩
  · omega
  · rw [if_pos hbd, if_pos hbd, Int.sub_zero]
    exact ⟨rfl, ⟨N', _, hq, hok', ho', rfl⟩, hch⟩
  · have hnot : ¬ n ≤ (qu.after r B (qu.to t now - t) g s).getD B := by
      rcases h2 with h2 | ⟨hg, hm⟩
      · omega
      · have := (only_one hq.map ho').2 hg
        omega
    rw [if_neg hnot, if_neg hnot]
    exact ⟨rfl, ⟨N', _, hq, hok', ho', rfl⟩, hch⟩
  · rw [if_pos h2, if_pos h2]
    have hle : (qu.after r B (qu.to t now - t) g s).getD B ≤ B := by
      cases hg : qu.after r B (qu.to t now - t) g s with
      | none => simp
      | some c => have := hok'.ok s c hg; simp only [Option.getD_some]; omega
    generalize hl : (qu.after r B (qu.to t now - t) g s).getD B = left at *
    refine ⟨rfl, ⟨_, _, hq, { hok' with ok := fun u c hc => ?_ }, fun u hu => ?_, ?_⟩, hch⟩
    · unfold qu.set at hc
      split at hc
      · split at hc
        · cases hc
        · cases hc; omega
      · exact hok'.ok u c hc
    · unfold qu.set
      rw [if_neg hu]
      exact ho' u hu
    · unfold qu.set
      rw [if_pos rfl]
      split
      · rename_i e; rw [Option.getD_none, e]
      · rfl
theorem QA.left (p b : Nat) (r B m t : Int) (s : ByteArray) (x now : Int) (w : World) (h : QA w p b r B m t s x) (hs : s.size ≤ maxLen) (hnow : -9223372036854775808 ≤ now ∧ now ≤ 9223372036854775807) :
    Calls Try.prog 30 #[.pointer (some ⟨p, 0, none⟩), .string s, .int .i64 now] w fun e w' => e = .returned (.int .i64 (qu.x1 r B t x now)) ∧ QA w' p b r B m (qu.to t now) s (qu.x1 r B t x now) ∧ Chg w w' (quT p b) := by
  obtain ⟨N, g, h1, ok, ho, hx⟩ := h
  have h01 := only_one h1.map ho
  refine (qu.left_any p b r B m t N g s now w h1 ok (by omega) hs hnow).mono ?_
  rintro e w' ⟨rfl, hp⟩
  refine ⟨?_, QA.pass ok ho hx hp, hp.elim fun _ h => h.2.2⟩
  rw [qu.after_getD ok _ (qu.to_ge t now), hx]
  rfl
theorem QA.left_other (p b : Nat) (r B m t : Int) (s u : ByteArray) (x now : Int) (w : World) (h : QA w p b r B m t s x) (hu : u ≠ s) (hs : u.size ≤ maxLen) (hnow : -9223372036854775808 ≤ now ∧ now ≤ 9223372036854775807) :
    Calls Try.prog 30 #[.pointer (some ⟨p, 0, none⟩), .string u, .int .i64 now] w fun e w' => e = .returned (.int .i64 B) ∧ QA w' p b r B m (qu.to t now) s (qu.x1 r B t x now) ∧ Chg w w' (quT p b) := by
  obtain ⟨N, g, h1, ok, ho, hx⟩ := h
  have h01 := only_one h1.map ho
  refine (qu.left_any p b r B m t N g u now w h1 ok (by omega) hs hnow).mono ?_
  rintro e w' ⟨rfl, hp⟩
  refine ⟨?_, QA.pass ok ho hx hp, hp.elim fun _ h => h.2.2⟩
  rw [qu.after_none (ho u hu), Option.getD_none]
theorem QA.wait (p b : Nat) (r B m t : Int) (s : ByteArray) (x n now : Int) (w : World) (h : QA w p b r B m t s x) (hs : s.size ≤ maxLen) (hn : -9223372036854775808 ≤ n ∧ n ≤ 9223372036854775807) (hnow : -9223372036854775808 ≤ now ∧ now ≤ 9223372036854775807) :
    Calls Try.prog 29 #[.pointer (some ⟨p, 0, none⟩), .string s, .int .i64 n, .int .i64 now] w fun e w' => e = .returned (.tuple #[.int .i64 (qu.wait r B (qu.x1 r B t x now) n).1, .bool (qu.wait r B (qu.x1 r B t x now) n).2]) ∧
      QA w' p b r B m (qu.to t now) s (qu.x1 r B t x now) ∧ Chg w w' (quT p b) := by
  obtain ⟨N, g, h1, ok, ho, hx⟩ := h
  have h01 := only_one h1.map ho
  refine (qu.wait_any p b r B m t N g s n now w h1 ok (by omega) hs hn hnow).mono ?_
  rintro e w' ⟨rfl, hp⟩
  refine ⟨?_, QA.pass ok ho hx hp, hp.elim fun _ h => h.2.2⟩
  rw [qu.after_getD ok _ (qu.to_ge t now), hx]
  rfl
end Go.Proofs.Ytmlkgealjbjlgaa

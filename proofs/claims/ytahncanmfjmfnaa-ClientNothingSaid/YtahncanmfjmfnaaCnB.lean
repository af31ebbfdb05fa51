/- What the laws draw for chapter 24: rows of records. -/
import Derived.Test.YtahncanmfjmfnaaCnA
import Derived.Test.YtahncanmfjmfnaaBdG
import Derived.Test.YtahncanmfjmfnaaEch
import Derived.Maps.AppendAt
namespace Go.Proofs.Ytahncanmfjmfnaa
open Go.RowKit Go.Maps
set_option maxRecDepth 100000

def cn.recs (n : Nat) (seed : Int) : List Rec := (List.range n).map fun (i : Nat) => cn.rec (wrap64 (seed + (i : Int))) (i : Int) (i : Int)
theorem cn.recs_succ (n : Nat) (seed : Int) : cn.recs (n + 1) seed = cn.recs n seed ++ [cn.rec (wrap64 (seed + (n : Int))) (n : Int) (n : Int)] := by unfold cn.recs; simp [List.range_succ]
theorem cn.recs_len (n : Nat) (seed : Int) : (cn.recs n seed).length = n := by unfold cn.recs; simp
theorem cn.infoRec : (Try.prog.info? 44).map (fun i => (i.zero, i.size, i.bytes)) = some (some (.agg #[.int .i64 0, .int .i64 0, .bool false, .slice none 0 0, .bool false, .slice none 0 0]), 6, 80) := by kernel_rfl

set_option maxHeartbeats 4000000 in
theorem cn.records_any (n : Nat) (seed : Int) (w : World) (hn : n ≤ 1000) :
    Calls Try.prog 12 #[.int .i64 (n : Int), .int .i64 seed] w fun e w' => ∃ v, e = .returned v ∧ RowR w' w.heap.size v (cn.recs n seed) ∧ Below w.heap.size w w' := by
  obtain ⟨i0, hi0, hz0, hz1, hz2⟩ := info_parts cn.infoRec
  have HI := Lib.hid (And.intro hi0 (And.intro hz0 (And.intro hz1 hz2))); clear hi0 hz0 hz1 hz2
  go_enter Try.func12, Try.ntmps12
  go_upto_region 3 with fail
  go_loopw [5, 6] (fun l i wr => ∃ (j : Nat), j ≤ n ∧ i = .int .i64 (j : Int) ∧ RowR wr w.heap.size l (cn.recs j seed) ∧ Below w.heap.size w wr) (fun _ i _ => n - (intOf i).toNat)
  case atStart => exact ⟨0, by omega, rfl, RowR.nil _ _, Below.refl _ _⟩
  case round =>
    obtain ⟨j, hj, rfl, hrow, hbw⟩ := hrel
    by_cases hlt : j < n
    · have hlt' : (j : Int) < (n : Int) := by omega
      have hrec := cn.record_any (wrap64 (seed + (j : Int))) (j : Int) (j : Int) wr (wrap_ok _) ⟨by omega, by omega⟩
      have HREC := Lib.hid hrec; clear hrec
      obtain ⟨r, hr⟩ : ∃ r, r = cn.rec (wrap64 (seed + (j : Int))) (j : Int) (j : Int) := ⟨_, rfl⟩
      have hsucc := cn.recs_succ j seed
      rw [← hr] at hsucc HREC
      have hr1 : r.off = 0 ∧ r.time = (j : Int) ∧ r.hasKey = decide (0 ≤ wrap64 (seed + (j : Int))) ∧ r.hasVal = decide (0 ≤ (j : Int)) := by rw [hr]; exact ⟨rfl, rfl, rfl, rfl⟩
      have hlen := cn.recs_len j seed
      obtain ⟨rs, hrs⟩ : ∃ rs, rs = cn.recs j seed := ⟨_, rfl⟩
      rw [← hrs] at hsucc hlen hrow
      obtain ⟨xs0, hown0, hcells0⟩ := id hrow
      rw [hlen] at hown0
      obtain ⟨Ar, cr, rfl, -, -⟩ := own_at hown0
      have hrlt := hown0.lt
      have HROW := Lib.hid (And.intro hrow (And.intro hbw (And.intro hsucc (And.intro hlen hr1)))); clear hrow hbw hsucc hlen hr1 hr hrs hown0 hcells0
      go_wp2_with fail
      refine HREC.out.mono ?_
      rintro e w4 ⟨kv, vv, rfl, hok, hov, hb4⟩
      obtain ⟨Ak, nk, ck, rfl⟩ : ∃ A n c, kv = .slice A n c := by obtain ⟨A, c, e, -⟩ := hok.1; exact ⟨A, _, c, e⟩
      obtain ⟨Av, nv, cv, rfl⟩ : ∃ A n c, vv = .slice A n c := by obtain ⟨A, c, e, -⟩ := hov.1; exact ⟨A, _, c, e⟩
      obtain ⟨kb, vb, hkb, hvb⟩ : ∃ kb vb : Bool, kb = decide (0 ≤ wrap64 (seed + (j : Int))) ∧ vb = decide (0 ≤ (j : Int)) := ⟨_, _, rfl, rfl⟩
      rw [← hkb, ← hvb]
      obtain ⟨w5, hw5⟩ : ∃ w5, w5 = w4.alloc (.cells #[.int .i64 0, .int .i64 (j : Int), .bool kb, .slice Ak nk ck, .bool vb, .slice Av nv cv] 44) := ⟨_, rfl⟩
      have hb5 : Below wr.heap.size wr w5 := by rw [hw5]; exact hb4.alloc hb4.size _
      have hs5 : w5.heap.size = w4.heap.size + 1 := by rw [hw5]; exact World.size_alloc _ _
      obtain ⟨xs, hown, hcells⟩ := HROW.out.1.below hb5
      have hxl := hown.1
      rw [HROW.out.2.2.2.1] at hown hxl
      have hs4 := hb4.size
      have hkey : ∀ {u : Value} {K : List Nat}, cn.Own wr.heap.size w4 u K → KeyR w5 w.heap.size (.slice Ar j cr) u K := fun {u K} h => by
        have h5 : cn.Own wr.heap.size w5 u K := by rw [hw5]; exact h.chg (Chg.alloc _ _ (fun _ => False)) fun _ q => q.elim
        refine ⟨h5.1, fun q hq => ⟨Nat.le_trans HROW.out.2.1.size (h5.2 q hq).1, (h5.2 q hq).2, fun hh => ?_⟩⟩
        have h6 := (hrlt q hh).2
        have h7 := (h5.2 q hq).1
        omega
      have hkk := hkey hok
      have hvv := hkey hov
      have hcell := cells_new w4 [.int .i64 0, .int .i64 (j : Int), .bool kb, .slice Ak nk ck, .bool vb, .slice Av nv cv] 44 w4.heap.size rfl
      have happ : ∀ v2 w9, w9.ownsRow w.heap.size 44 6 v2 (j + 1) (xs ++ [.int .i64 0, .int .i64 (j : Int), .bool kb, .slice Ak nk ck, .bool vb, .slice Av nv cv]) → w5.grownBy w9 (Value.slice Ar j cr).ownBlock → (v2.ownBlock = (Value.slice Ar j cr).ownBlock ∨ v2.ownBlock = some w5.heap.size) →
          RowR w9 w.heap.size v2 (cn.recs (j + 1) seed) ∧ Below w.heap.size w w9 := fun v2 w9 h1 h2 h3 => by
        refine ⟨?_, (HROW.out.2.1.trans (hb5.mono HROW.out.2.1.size)).grown h2 (Nat.le_trans HROW.out.2.1.size hb5.size) (fun q hq => (hrlt q hq).1)⟩
        obtain ⟨r1, r2, r3, r4⟩ := HROW.out.2.2.2.2
        rw [HROW.out.2.2.1]
        exact RowR.append (r := r) hcells (by rw [HROW.out.2.2.2.1]; exact hxl) hkk hvv (by rw [r1]; unfold i64ok; omega) (by rw [r2]; unfold i64ok; omega) (by rw [HROW.out.2.2.2.1, r1, r2, r3, r4, ← hkb, ← hvb]; exact h1) h2 h3
      have HAPP := Lib.hid (And.intro happ (And.intro hown (And.intro hcell (And.intro hw5 (And.intro hs5 hs4))))); clear happ hown hcell hw5 hs5 hs4 hcells hxl hkey hkk hvv hok hov hb4 hb5 hrlt hkb hvb
      have hj1 : j ≤ 1000 := by omega
      go_wp2_with (at_builtin; rw [← HAPP.out.2.2.2.1]; refine wpList_append_own_at _ rfl (.tmp 12) (.tmp 19) 39 rfl w.heap.size 44 i0 _ 6 80 Try.underlying39 HI.out.1 HI.out.2.1 HI.out.2.2.1 HI.out.2.2.2 rfl (by decide) (.slice Ar j cr) j xs rfl HAPP.out.2.1 ⟨w4.heap.size, 0, none⟩ 1 1 [.int .i64 0, .int .i64 (j : Int), .bool kb, .slice Ak nk ck, .bool vb, .slice Av nv cv] rfl rfl (by rw [HAPP.out.2.2.2.1]; exact HAPP.out.2.2.1) (by simp [Value.oneCell']) (by unfold maxLen; omega) (by omega) (by have h1 := HAPP.out.2.2.2.2.1; have h2 := HAPP.out.2.2.2.2.2; have h3 := HROW.out.2.1.size; omega) ?_; intro v2 w9 h1 h2 _ h3)
      have HN := Lib.hid (HAPP.out.1 v2 w9 h1 h2 h3); clear h1 h2 h3
      go_wp2_with fail
      go_roundw
      case rel => exact ⟨j + 1, by omega, by go_num, HN.out.1, HN.out.2⟩
      case measure => simp [intOf]; omega
    · obtain rfl : j = n := by omega
      have HROW := Lib.hid (And.intro hrow hbw); clear hrow hbw
      go_wp2_with fail
      go_ret
      exact ⟨_, rfl, HROW.out.1, HROW.out.2⟩
end Go.Proofs.Ytahncanmfjmfnaa

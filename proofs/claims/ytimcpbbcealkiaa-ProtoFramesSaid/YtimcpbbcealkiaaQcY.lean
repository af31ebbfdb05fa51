/- cordwainref20: the reader; Decode in plain words (QcD, QcE, QcG; chapter 20). -/
import Derived.BigQuiet
import Derived.Test.YtimcpbbcealkiaaRefG
import Derived.Test.YtimcpbbcealkiaaRefC
import Derived.Test.YtimcpbbcealkiaaPqD
import Derived.Test.YtimcpbbcealkiaaBwB
import Derived.Test.YtimcpbbcealkiaaPbX
import Derived.Deep.CutRange
import Derived.Maps.AppendAt
namespace Go.Proofs.Ytimcpbbcealkiaa
section
open Go.RowKit
set_option maxRecDepth 20000

theorem qs.run (w : World) (A : Option Addr) (n c l h : Nat) (low high : Option Value) (hlo : (low = none ∧ l = 0) ∨ low = some (.int .i64 (l : Int))) (hhi : (high = none ∧ h = n) ∨ high = some (.int .i64 (h : Int))) (hlh : l ≤ h) (hhn : h ≤ n) (hnc : n ≤ c) :
    ∃ A', (Instr.sliceAt 23 (.slice A n c) low high none).run Try.prog w = .ok (.slice A' (h - l) (c - l)) w ∧ ((A' = A ∧ c = l) ∨ A' = A.map fun a => a.add l) := by
  obtain ⟨i0, hi, hz0, hz1, hz2⟩ := info_parts infoByte
  have h1 : (0 : Int) ≤ (l : Int) ∧ (l : Int) ≤ (h : Int) := by omega
  have h2 : (0 : Int) ≤ (h : Int) ∧ (h : Int) ≤ (c : Int) := by omega
  refine ⟨if c = l then A else A.map fun a => a.add (l * 1), ?_, ?_⟩
  · rcases hlo with ⟨rfl, rfl⟩ | rfl <;> rcases hhi with ⟨rfl, rfl⟩ | rfl <;>
      simp [Instr.sliceAt, Instr.slice, Instr.sliceBounds, Instr.sliceBound, run_underlying Try.underlying23, sizeOf, typeInfo, hi, hz1, asIntOf, hlh, Nat.le_trans hhn hnc]
    all_goals (have hq := Nat.le_trans hhn hnc; intros; omega)
  · by_cases e : c = l
    · rw [if_pos e]
      exact .inl ⟨rfl, e⟩
    · rw [if_neg e, Nat.mul_one]
      exact .inr rfl
/-- A piece of a slice of bytes: its bytes, and in whose block they lie. -/
theorem qs.wpList {ops : Array Oper} {rest : List Oper} {o : Oper} {a : Act} {w : World} {Q : Exit → Act → World → Prop} (hgd : o.guard = none) (x : Operand) (lo hi : Option Operand)
    (ho : o.op = .slice 23 x lo hi none) (A : Option Addr) (n c l h : Nat) (hx : a.eval x = .slice A n c) (hlo : (lo.map a.eval = none ∧ l = 0) ∨ lo.map a.eval = some (.int .i64 (l : Int))) (hhi : (hi.map a.eval = none ∧ h = n) ∨ hi.map a.eval = some (.int .i64 (h : Int))) (hlh : l ≤ h) (hhn : h ≤ n) (hnc : n ≤ c)
    (hQ : ∀ A' c', (∀ (wx : World) (L : List Nat), L.length = n → At wx A n (byteAt L) → At wx A' (h - l) (byteAt ((L.drop l).take (h - l)))) → (∀ a', A' = some a' → ∃ a, A = some a ∧ a'.block = a.block) → h - l ≤ c' → c' ≤ c → wpList Try.prog ops Q rest (a.put o.dst (.slice A' (h - l) c')) w) : wpList Try.prog ops Q (o :: rest) a w :=
  wpList_plain hgd fun _ hK => by
    obtain ⟨A', hr, hA⟩ := qs.run w A n c l h (lo.map a.eval) (hi.map a.eval) hlo hhi hlh hhn hnc
    unfold Oper.wp execOp
    simp only [ho, hx, Option.map_none, Sem.run_bind, Result.andThen_ok, hr]
    refine hK _ _ (hQ A' (c - l) (fun wx L hL hat => ?_) (fun a' ha => ?_) (by omega) (by omega))
    · rcases hA with ⟨-, h0⟩ | rfl
      · exact At.none0 (by omega)
      · exact (hat.byte_from l).byte_le (h - l) (by omega)
    · rcases hA with ⟨rfl, -⟩ | rfl
      · exact ⟨a', ha, rfl⟩
      · cases A with
        | none => cases ha
        | some a0 => exact ⟨a0, rfl, by injection ha with ha; rw [← ha]; show (Addr.add a0 l).block = a0.block; unfold Addr.add; split <;> rfl⟩
/-- The reader at r has L left, a piece of the bytes L0 at A0. -/
def RrP (A0 : Option Addr) (L0 : List Nat) (w : World) (r : Nat) (L : List Nat) (e : Int) : Prop :=
  ∃ A c, Blk w r 81 #[.slice A L.length c, .int .i64 e] ∧ (∀ wx, At wx A0 L0.length (byteAt L0) → At wx A L.length (byteAt L)) ∧ At w A0 L0.length (byteAt L0) ∧ L.length ≤ c ∧ c ≤ maxLen ∧ (∀ x ∈ L, x < 256) ∧ (∀ b off, A0 = some ⟨b, off, none⟩ → b ≠ r) ∧ L.length ≤ 1000000
theorem RrP.chg {A0 : Option Addr} {L0 : List Nat} {P : Nat → Prop} {w w' : World} {r : Nat} {L : List Nat} {e : Int} (h : RrP A0 L0 w r L e) (hc : Chg w w' P) (hr : ¬ P r) (hq : ∀ b off, A0 = some ⟨b, off, none⟩ → ¬ P b) : RrP A0 L0 w' r L e := by
  obtain ⟨A, c, h1, h2, h3, h4⟩ := h
  exact ⟨A, c, hc.blk h1 hr, h2, hc.at' h3 fun _ b off hA hB => hq b off hA hB, h4⟩
theorem RrP.keep {A0 : Option Addr} {L0 : List Nat} {w w' : World} {r : Nat} {L : List Nat} {e : Int} (h : RrP A0 L0 w r L e) (hb : Below w.heap.size w w') : RrP A0 L0 w' r L e := h.chg (chg_of (P := fun _ => False) hb) (fun q => q) fun _ _ _ q => q
theorem RrP.blk {A0 : Option Addr} {L0 : List Nat} {w : World} {r : Nat} {L : List Nat} {e : Int} (h : RrP A0 L0 w r L e) : ∃ cs, Blk w r 81 cs := by
  obtain ⟨A, c, h1, -⟩ := h
  exact ⟨_, h1⟩
theorem RrP.lt {A0 : Option Addr} {L0 : List Nat} {w : World} {r : Nat} {L : List Nat} {e : Int} (h : RrP A0 L0 w r L e) : r < w.heap.size := by
  obtain ⟨A, c, h1, -⟩ := h
  exact h1.lt
theorem rd.num_e {L : List Nat} {e : Int} (h : (rd.num L e).2.2 = 0) : e = 0 := by
  by_cases he : e = 0
  · exact he
  · rw [rd.num_err he] at h
    exact h
theorem rd.piece_e {L : List Nat} {e most : Int} (h : (rd.piece L e most).2.2 = 0) : e = 0 := by
  by_cases he : e = 0
  · exact he
  · unfold rd.piece at h
    rw [rd.num_err he] at h
    unfold rd.cut at h
    dsimp only at h
    rw [if_pos he] at h
    exact h
theorem rr.piece_le (L : List Nat) (e most : Int) : (rd.piece L e most).1.length ≤ L.length := by
  have h := rd.num_le L e
  unfold rd.piece rd.cut
  split
  · exact Nat.zero_le _
  · split
    · exact Nat.zero_le _
    · split
      · exact Nat.zero_le _
      · rw [List.length_take]
        omega
def rrT (r : Nat) : Nat → Prop := fun k => k = r
/-- What num answers, and leaves; where it fails nothing is said of what is left. -/
def RrNum (A0 : Option Addr) (L0 : List Nat) (w : World) (r : Nat) (L : List Nat) (e : Int) (en : Ending) (w' : World) : Prop :=
  ∃ (n : Int) (L' : List Nat) (e' : Int), en = .returned (.int .i64 n) ∧ RrP A0 L0 w' r L' e' ∧ Chg w w' (rrT r) ∧ pq.int n ∧ ((rd.num L e).2.2 = 0 → (n, L', e') = rd.num L e) ∧ (e' ≠ 0 → n = 0) ∧ (e' = 0 → e = 0)
set_option maxHeartbeats 1000000 in
theorem rr.num (A0 : Option Addr) (L0 : List Nat) (r : Nat) (L : List Nat) (e : Int) (w : World) (h : RrP A0 L0 w r L e) :
    Calls Try.prog 44 #[.pointer (some ⟨r, 0, none⟩)] w (RrNum A0 L0 w r L e) := by
  have hrq := h
  obtain ⟨A, c, hb, hpc, hat0, hc, hcm, hby, hne, hl⟩ := h
  have hat := hpc w hat0
  have u0 := hb.cell 0 (v := .slice A L.length c) rfl
  have u1 := hb.cell 1 (v := .int .i64 e) rfl
  have g0 := hb.frozen 0
  have g1 := hb.frozen 1
  have ul := hb.lt
  by_cases he : e = 0
  · subst he
    have hget := num.refget_any A L.length c (fun j => L.getD j 0) w (by omega) hat (fun j hj => getD_all hby j hj)
    rw [show num.get (fun j => L.getD j 0) L.length = num.getL L from rfl] at hget
    obtain ⟨m, hm⟩ : ∃ m, m = L.length := ⟨_, rfl⟩
    rw [← hm] at u0 hget hc
    have H := Lib.hid (And.intro hat0 (And.intro hpc (And.intro hby (And.intro hne (And.intro hl (And.intro hm hb)))))); clear hrq hat hat0 hpc hby hne hl hm hb
    cases hg : num.getL L with
    | none =>
      rw [hg] at hget
      unfold num.res2 at hget
      have hr : rd.num L 0 = (0, [], 2) := by unfold rd.num; rw [if_neg (by simp), hg]
      have HR := Lib.hid (And.intro hget hr); clear hget hr hg
      go_enter Try.func44, Try.ntmps44
      go_wp2_with (go_at_call 70; refine HR.out.1.mono ?_; rintro en w' ⟨rfl, h3⟩; subst h3)
      go_ret
      refine ⟨0, L, 2, rfl, ⟨A, c, ?_, H.out.2.1, ?_, by have := H.out.2.2.2.2.2.1; omega, hcm, H.out.2.2.1, H.out.2.2.2.1, H.out.2.2.2.2.1⟩, Chg.setCell w r 1 _, by unfold pq.int; omega, fun h => ?_, fun _ => rfl, fun h => absurd h (by decide)⟩
      · exact H.out.2.2.2.2.2.2.set 1 _
      · exact (Chg.setCell w r 1 _).at' H.out.1 fun _ b off hA hB => H.out.2.2.2.1 b off hA hB
      · rw [HR.out.2] at h
        exact absurd h (by decide)
    | some p =>
      obtain ⟨u, k⟩ := p
      rw [hg] at hget
      have hget' : Calls Try.prog 70 #[.slice A m c] w fun e w' => e = .returned (.tuple #[.int .i64 (num.zag u), .int .i64 (k : Int)]) ∧ w = w' := hget
      obtain ⟨hk, hk1⟩ := num.getL_le hg
      have hr : rd.num L 0 = (num.zag u, L.drop k, 0) := by unfold rd.num; rw [if_neg (by simp), hg]
      have hbd := rd.num_bd L 0
      rw [hr] at hbd
      dsimp only at hbd
      have hkm : k ≤ m := by rw [H.out.2.2.2.2.2.1]; exact hk
      have hk0 : ((k : Int) == 0) = false := by simp; omega
      generalize num.zag u = n at *
      have HR := Lib.hid (And.intro hget' (And.intro hr hbd)); clear hget hget' hr hg hbd hk
      go_enter Try.func44, Try.ntmps44
      go_wp2_with (first
        | (go_at_call 70; refine HR.out.1.mono ?_; rintro en w' ⟨rfl, h3⟩; subst h3)
        | (show Go.wpList _ _ _ (⟨_, .slice _ (.tmp 27) _ _ _, _, _, _, _⟩ :: _) _ _; refine qs.wpList rfl (.tmp 27) (some (.tmp 28)) none rfl A m c k m rfl (.inr rfl) (.inl ⟨rfl, rfl⟩) hkm (Nat.le_refl _) hc ?_; intro A' c' hat' hblk hc1 hc2; have HS := Lib.hid (And.intro hat' (And.intro hblk (And.intro hc1 hc2))); clear hat' hblk hc1 hc2))
      go_ret
      have hdl : (L.drop k).length = m - k := by rw [List.length_drop, H.out.2.2.2.2.2.1]
      have htk : (L.drop k).take (m - k) = L.drop k := by rw [List.take_of_length_le (by omega)]
      refine ⟨n, L.drop k, 0, rfl, ⟨A', c', ?_, fun wx hx => ?_, ?_, by rw [hdl]; exact HS.out.2.2.1, Nat.le_trans HS.out.2.2.2 hcm, fun x hx => H.out.2.2.1 x (List.mem_of_mem_drop hx), H.out.2.2.2.1, by have := H.out.2.2.2.2.1; have := H.out.2.2.2.2.2.1; omega⟩, Chg.setCell w r 0 _, HR.out.2.2, fun _ => HR.out.2.1.symm, fun h => absurd rfl h, fun _ => rfl⟩
      · rw [hdl]
        exact H.out.2.2.2.2.2.2.set 0 _
      · have h1 := HS.out.1 wx L H.out.2.2.2.2.2.1.symm (by rw [H.out.2.2.2.2.2.1]; exact H.out.2.1 wx hx)
        rw [htk] at h1
        rw [hdl]
        exact h1
      · exact (Chg.setCell w r 0 _).at' H.out.1 fun _ b off hA hB => H.out.2.2.2.1 b off hA hB
  · have he' : (e == 0) = false := by simpa using he
    have he2 : (e != 0) = true := by simp [he]
    have H := Lib.hid hrq; clear hrq hat hat0 hpc hby hne hl hb hc
    have HE := Lib.hid he; clear he
    go_enter Try.func44, Try.ntmps44
    go_wp2
    go_ret
    exact ⟨0, L, e, rfl, H.out, Chg.refl _ _, by unfold pq.int; omega, fun h => absurd (rd.num_e h) HE.out, fun _ => rfl, fun h => absurd h HE.out⟩
theorem qs.empty (w3 w : World) (hb : Below w3.heap.size w3 w) : Acc w3 (.slice (some ⟨w.heap.size, 0, none⟩) 0 0) [] (w.alloc (.cells #[] 5)) :=
  ⟨World.ownsRow_made w #[] 0 hb.size (by unfold maxLen; omega) (by simp), hb.alloc hb.size _⟩
/-- What bytes answers, and leaves. -/
def RrBytes (A0 : Option Addr) (L0 : List Nat) (w : World) (r : Nat) (L : List Nat) (e most : Int) (en : Ending) (w' : World) : Prop :=
  ∃ (v : Value) (P L' : List Nat) (e' : Int), en = .returned v ∧ w'.ownsRow w.heap.size 5 1 v P.length (u8s P) ∧ (∀ x ∈ P, x < 256) ∧ RrP A0 L0 w' r L' e' ∧ Chg w w' (rrT r) ∧ ((P.length : Int) ≤ most) ∧ ((rd.piece L e most).2.2 = 0 → (P, L', e') = rd.piece L e most) ∧ (e' = 0 → e = 0)
set_option maxHeartbeats 1000000 in
theorem rr.bytes (A0 : Option Addr) (L0 : List Nat) (r : Nat) (L : List Nat) (e most : Int) (w : World) (h : RrP A0 L0 w r L e) (hm0 : 0 ≤ most) :
    Calls Try.prog 43 #[.pointer (some ⟨r, 0, none⟩), .int .i64 most] w (RrBytes A0 L0 w r L e most) := by
  have hrq := h
  obtain ⟨A, c, hb, hpc, hat0, hc, hcm, hby, hne, hl⟩ := h
  have hat := hpc w hat0
  have u0 := hb.cell 0 (v := .slice A L.length c) rfl
  have u1 := hb.cell 1 (v := .int .i64 e) rfl
  have ul := hb.lt
  by_cases he : e = 0
  · subst he
    have hget := wire.refgetbytes_any A L.length c L most w rfl hat hby hc hcm hl
    have hpl := rd.piece_len (L := L) (e := 0) (most := most) hm0
    have hpr := rd.piece_rest L 0 most
    have hpm := rd.piece_mem (L := L) (e := 0) (most := most)
    have hps := rd.piece_sub (L := L) (e := 0) (most := most)
    have hple := rr.piece_le L 0 most
    obtain ⟨q, hq⟩ : ∃ q, q = rd.piece L 0 most := ⟨_, rfl⟩
    obtain ⟨m, hm⟩ : ∃ m, m = L.length := ⟨_, rfl⟩
    unfold RrBytes
    rw [← hq] at hget hpl hpr hpm hps hple ⊢
    rw [← hm] at u0 hget
    obtain ⟨P, M, f⟩ := q
    dsimp only at hget hpl hpr hpm hps hple ⊢
    unfold wire.GetPost at hget
    have H := Lib.hid (And.intro hat0 (And.intro hpc (And.intro hby (And.intro hne (And.intro hl (And.intro hb (And.intro hget (And.intro hpl (And.intro hpr (And.intro hpm (And.intro hps (And.intro hm (And.intro hple hrq))))))))))))); clear hrq hat hat0 hpc hby hne hl hb hget hpl hpr hpm hps hple hq hm
    by_cases hf : f = 0
    · subst hf
      go_enter Try.func43, Try.ntmps43
      go_upto_region 4 with (go_at_call 69; refine H.out.2.2.2.2.2.2.1.mono ?_; rintro en w1 ⟨⟨A1, c1, A2, c2, rfl, q1, q2, q3, q4⟩, qn, hw1⟩; have H1 := Lib.hid (And.intro q1 (And.intro q2 (And.intro q3 (And.intro q4 hw1)))); clear q1 q2 q3 q4 hw1)
      have hc1 : Chg w w1 (fun _ => False) := by rw [H1.out.2.2.2.2]; exact chg_of (P := fun _ => False) (bdrew (Below.refl _ w) qn)
      have hb1 := hc1.blk H.out.2.2.2.2.2.1 fun q => q
      have f0 := hb1.cell 0 (v := .slice A L.length c) rfl
      have f1 := hb1.frozen 0
      have f2 := hb1.lt
      have hrdr : RrP A0 L0 (w1.setCell ⟨r, 0, none⟩ (.slice A2 M.length c2)) r M 0 :=
        ⟨A2, c2, hb1.set 0 _, fun wx hx => (H1.out.1 wx (by have := H.out.2.2.2.2.2.2.2.2.2.2.2.1; rw [this]; exact H.out.2.1 wx hx)).2, (Chg.setCell w1 r 0 _).at' (hc1.at' H.out.1 fun _ _ _ _ q => q) fun _ b off hA hB => H.out.2.2.2.1 b off hA hB, H1.out.2.2.1, H1.out.2.2.2.1, fun x hx => H.out.2.2.1 x (H.out.2.2.2.2.2.2.2.2.2.2.1 x hx), H.out.2.2.2.1, by have := H.out.2.2.2.2.1; have := H.out.2.2.2.2.2.2.2.2.1; omega⟩
      obtain ⟨w2, hw2⟩ : ∃ w2, w2 = w1.setCell ⟨r, 0, none⟩ (.slice A2 M.length c2) := ⟨_, rfl⟩
      have hc2 : Chg w w2 (rrT r) := by rw [hw2]; exact (hc1.mono fun _ _ q => q.elim).trans (Chg.setCell w1 r 0 _) fun _ _ q => q
      rw [← hw2] at hrdr
      have hatP : At w2 A1 P.length (byteAt P) := by
        have h1 := (H1.out.1 w2 (by
          have := H.out.2.2.2.2.2.2.2.2.2.2.2.1
          rw [this]
          obtain ⟨_, _, _, _, h3, _⟩ := hrdr
          exact H.out.2.1 w2 h3)).1
        exact h1
      have H2 := Lib.hid (And.intro hrdr (And.intro hc2 (hatP.alloc (.cells #[] 5)))); clear hrdr hc2 hatP hb1 hc1
      obtain ⟨np, hnp⟩ : ∃ np, np = P.length := ⟨_, rfl⟩
      have HNP := Lib.hid hnp
      have hatp2 := H2.out.2.2
      rw [← hnp] at hatp2 ⊢
      have HP2 := Lib.hid hatp2; clear hatp2 hnp
      go_upto_region 8 with fail
      rw [← hw2]
      clear f0 f1 f2 hw2
      go_wp2_with (at_builtin; refine wpList_acc rfl (.tmp 33) (.tmp 34) rfl _ _ rfl (qs.empty w2 w2 (Below.refl _ _)) A1 np c1 P rfl HNP.out.symm HP2.out (by have := H.out.2.2.2.2.1; have := H.out.2.2.2.2.2.2.2.2.2.2.2.2.1; rw [List.length_nil]; omega) ?_; intro v w3 hA; rw [List.nil_append] at hA; have HA := Lib.hid hA; clear hA)
      go_ret
      exact ⟨v, P, M, 0, rfl, ownsRow_base HA.out.1 H2.out.2.1.size, fun x hx => H.out.2.2.1 x (H.out.2.2.2.2.2.2.2.2.2.1 x hx), H2.out.1.keep HA.out.2, H2.out.2.1.trans (chg_of (P := fun _ => False) HA.out.2) fun _ _ q => q.elim, H.out.2.2.2.2.2.2.2.1, fun _ => (by first | rfl | trivial), fun _ => (by first | rfl | trivial)⟩
    · have d1 : (f == 0) = false := by simp [hf]
      have d2 : (f != 0) = true := by simp [hf]
      have HF := Lib.hid hf; clear hf
      go_enter Try.func43, Try.ntmps43
      go_upto_region 4 with (go_at_call 69; refine H.out.2.2.2.2.2.2.1.mono ?_; rintro en w1 ⟨⟨A1, c1, A2, c2, rfl, q1, q2, q3, q4⟩, qn, hw1⟩; have H1 := Lib.hid hw1; clear q1 q2 q3 q4 hw1)
      have hc1 : Chg w w1 (fun _ => False) := by rw [H1.out]; exact chg_of (P := fun _ => False) (bdrew (Below.refl _ w) qn)
      have hb1 := hc1.blk H.out.2.2.2.2.2.1 fun q => q
      have f0 := hb1.cell 1 (v := .int .i64 0) rfl
      have f1 := hb1.frozen 1
      have f2 := hb1.lt
      have HC1 := Lib.hid (And.intro hc1 hb1); clear hc1 hb1
      go_wp2
      go_ret
      exact ⟨_, [], L, f, rfl, World.ownsRow_nil _ _ _ _, fun x hx => (by cases hx), ⟨A, c, HC1.out.2.set 1 _, H.out.2.1, (Chg.setCell w1 r 1 _).at' (HC1.out.1.at' H.out.1 fun _ _ _ _ q => q) fun _ b off hA hB => H.out.2.2.2.1 b off hA hB, by have := H.out.2.2.2.2.2.2.2.2.2.2.2.1; omega, hcm, H.out.2.2.1, H.out.2.2.2.1, H.out.2.2.2.2.1⟩, (HC1.out.1.mono fun _ _ q => q.elim).trans (Chg.setCell w1 r 1 _) fun _ _ q => q, by simpa using hm0, fun h => absurd h HF.out, fun h => absurd h HF.out⟩
  · have he' : (e == 0) = false := by simpa using he
    have he2 : (e != 0) = true := by simp [he]
    have H := Lib.hid hrq; clear hrq hat hat0 hpc hby hne hl hb hc
    have HE := Lib.hid he; clear he
    go_enter Try.func43, Try.ntmps43
    go_wp2
    go_ret
    exact ⟨_, [], L, e, rfl, World.ownsRow_nil _ _ _ _, fun x hx => (by cases hx), H.out, Chg.refl _ _, by simpa using hm0, fun h => absurd (rd.piece_e h) HE.out, fun h => absurd h HE.out⟩
end
section
open Go.RowKit Go.Maps
set_option maxRecDepth 20000
theorem rr.texts_e : ∀ (k : Nat) (L : List Nat) (e : Int), (rd.texts k L e).2.2 = 0 → e = 0
  | 0, _, _, h => h
  | k + 1, L, e, h => by
    rw [rd.texts] at h
    exact rd.piece_e (rr.texts_e k _ _ h)
theorem rr.list_e {most : Int} {L : List Nat} {e : Int} (h : (pq.list most L e).2.2 = 0) : (rd.num L e).2.2 = 0 ∧ 0 ≤ (rd.num L e).1 ∧ (rd.num L e).1 ≤ most ∧ pq.list most L e = rd.texts (rd.num L e).1.toNat (rd.num L e).2.1 0 := by
  unfold pq.list at h ⊢
  by_cases hc : (rd.num L e).2.2 = 0 ∧ ((rd.num L e).1 < 0 ∨ most < (rd.num L e).1)
  · rw [if_pos hc] at h
    exact absurd h (by show ¬ ((2 : Int) = 0); decide)
  · rw [if_neg hc] at h ⊢
    have h0 := rr.texts_e _ _ _ h
    refine ⟨h0, by omega, by omega, by rw [h0]⟩
theorem RrP.cell {A0 : Option Addr} {L0 : List Nat} {w : World} {r : Nat} {L : List Nat} {e : Int} (h : RrP A0 L0 w r L e) : w.cell? ⟨r, 1, none⟩ = some (.int .i64 e) ∧ w.frozen? ⟨r, 1, none⟩ = false := by
  obtain ⟨A, c, hb, -⟩ := h
  exact ⟨hb.cell 1 rfl, hb.frozen 1⟩
theorem RrP.fail {A0 : Option Addr} {L0 : List Nat} {w : World} {r : Nat} {L : List Nat} {e : Int} (h : RrP A0 L0 w r L e) (x : Int) : RrP A0 L0 (w.setCell ⟨r, 1, none⟩ (.int .i64 x)) r L x := by
  obtain ⟨A, c, hb, h2, h3, h4, h5, h6, h7, h8⟩ := h
  exact ⟨A, c, hb.set 1 _, h2, (Chg.setCell w r 1 _).at' h3 fun _ b off hA hB => h7 b off hA hB, h4, h5, h6, h7, h8⟩
/-- What texts answers, and leaves. -/
def RrTextsQ (A0 : Option Addr) (L0 : List Nat) (w : World) (r : Nat) (e : Int) (q0 : List ByteArray × List Nat × Int) (en : Ending) (w' : World) : Prop :=
  ∃ (v : Value) (l : List ByteArray) (L' : List Nat) (e' : Int), en = .returned v ∧ w'.ownsRow w.heap.size 9 1 v l.length (l.map fun s => .string s) ∧ (∀ s ∈ l, s.size ≤ 100) ∧ RrP A0 L0 w' r L' e' ∧ Chg w w' (rrT r) ∧ (q0.2.2 = 0 → (l, L', e') = q0) ∧ (e' = 0 → e = 0)
def RrTexts (A0 : Option Addr) (L0 : List Nat) (w : World) (r : Nat) (L : List Nat) (e most : Int) (en : Ending) (w' : World) : Prop := RrTextsQ A0 L0 w r e (pq.list most L e) en w'
set_option maxHeartbeats 4000000 in
theorem rr.texts (A0 : Option Addr) (L0 : List Nat) (r : Nat) (L : List Nat) (e most : Int) (w : World) (h : RrP A0 L0 w r L e) (hm : 0 ≤ most ∧ most ≤ 1000) (hA0 : ∀ b off, A0 = some ⟨b, off, none⟩ → b < w.heap.size) :
    Calls Try.prog 45 #[.pointer (some ⟨r, 0, none⟩), .int .i64 most] w (RrTexts A0 L0 w r L e most) := by
  have hnum := rr.num A0 L0 r L e w h
  have hrl := h.lt
  have hle := fun (hh : (pq.list most L e).2.2 = 0) => rr.list_e hh
  obtain ⟨q0, hq0⟩ : ∃ q, q = pq.list most L e := ⟨_, rfl⟩
  obtain ⟨p0, hp0⟩ : ∃ q, q = rd.num L e := ⟨_, rfl⟩
  unfold RrTexts
  unfold RrNum at hnum
  rw [← hq0] at hle ⊢
  rw [← hp0] at hle hnum
  clear hq0 hp0 h
  obtain ⟨i0, hi0, hz0, hz1, hz2⟩ := info_parts pq.infoStr
  have HI := Lib.hid (And.intro hi0 (And.intro hz0 (And.intro hz1 hz2))); clear hi0 hz0 hz1 hz2
  have HN := Lib.hid (And.intro hnum (And.intro hle hA0)); clear hnum hle hA0
  go_enter Try.func45, Try.ntmps45
  go_upto_region 2 with (go_at_call 44; refine HN.out.1.mono ?_; rintro en w1 ⟨n, L1, e1, rfl, h1, h2, h3, h4, h5, h6⟩; have H1 := Lib.hid (And.intro h1 (And.intro h2 (And.intro h3 (And.intro h4 (And.intro h5 h6))))); clear h1 h2 h3 h4 h5 h6)
  have c0 := H1.out.1.cell.1
  have c1 := H1.out.1.cell.2
  have cl := H1.out.1.lt
  have hz := H1.out.2.2.2.2.1
  by_cases hbad : e1 = 0 ∧ (n < 0 ∨ most < n)
  · obtain ⟨rfl, hbad⟩ := hbad
    have hno : q0.2.2 ≠ 0 := fun hq => by
      obtain ⟨g1, g2, g3, g4⟩ := HN.out.2.1 hq
      have g5 := H1.out.2.2.2.1 g1
      have g6 : n = p0.1 := congrArg (fun z => z.1) g5
      omega
    have hch2 : Chg w (w1.setCell ⟨r, 1, none⟩ (.int .i64 2)) (rrT r) := H1.out.2.1.trans (Chg.setCell w1 r 1 _) fun _ _ q => q
    have hrd2 := H1.out.1.fail 2
    have c2 := hrd2.cell.1
    have cl2 := hrd2.lt
    have H2 := Lib.hid (And.intro hno (And.intro hch2 hrd2)); clear hno hch2 hrd2 hz
    have hc : (decide (n < 0) = true ∧ decide (0 < n) = false) ∨ (decide (n < 0) = false ∧ decide (most < n) = true ∧ decide (0 < n) = true) := by simp only [decide_eq_true_eq, decide_eq_false_iff_not]; omega
    clear hbad
    rcases hc with ⟨d1, d3⟩ | ⟨d1, d2, d3⟩
    all_goals
      go_wp2_with fail
      go_loopw [6, 7] (fun l i wx => l = .slice none 0 0 ∧ i = .int .i64 0 ∧ wx = w1.setCell ⟨r, 1, none⟩ (.int .i64 2)) (fun _ _ _ => 0)
      case atStart => exact ⟨rfl, rfl, rfl⟩
      case round =>
        obtain ⟨rfl, rfl, rfl⟩ := hrel
        go_wp2_with fail
        go_ret
        unfold RrTextsQ
        exact ⟨_, [], L1, 2, rfl, World.ownsRow_nil _ _ _ _, fun s hs => (by cases hs), H2.out.2.2, H2.out.2.1, fun h => absurd h H2.out.1, fun h => absurd h (by decide)⟩
  · obtain ⟨k, rfl, hk⟩ : ∃ k : Nat, n = (k : Int) ∧ k ≤ 1000 := by
      by_cases h0 : e1 = 0
      · exact ⟨n.toNat, by omega, by omega⟩
      · exact ⟨0, hz h0, by omega⟩
    have hst : q0.2.2 = 0 → q0 = rd.texts k L1 0 ∧ e1 = 0 := fun hq => by
      obtain ⟨g1, g2, g3, g4⟩ := HN.out.2.1 hq
      have g5 := H1.out.2.2.2.1 g1
      rw [← g5] at g4 g1
      dsimp only at g4 g1
      rw [Int.toNat_natCast] at g4
      exact ⟨g4, g1⟩
    have HST := Lib.hid hst; clear hst hz
    go_cut [23] from 10 (fun s23 wx => s23 = .bool false ∧ w1 = wx)
    case first =>
      by_cases h0 : e1 = 0
      · subst h0
        have d1 : decide ((k : Int) < 0) = false := decide_eq_false (by omega)
        have d2 : decide (most < (k : Int)) = false := decide_eq_false (fun h => hbad ⟨rfl, .inr h⟩)
        clear hbad
        go_wp2_with fail
        go_meet
        case rel => exact ⟨rfl, rfl⟩
      · have d1 : (e1 == 0) = false := by simp [h0]
        clear hbad h0
        go_wp2_with fail
        go_meet
        case rel => exact ⟨rfl, rfl⟩
    case rest =>
      obtain ⟨rfl, rfl⟩ := hcut
      clear hbad c0 c1 cl
      go_wp2_with fail
      go_loopw [6, 7] (fun l i wx => ∃ (j : Nat) (ns : List ByteArray) (Lj : List Nat) (ej : Int), j ≤ k ∧ i = .int .i64 (j : Int) ∧ ns.length = j ∧ (q0.2.2 = 0 → ej = 0 ∧ q0 = (ns ++ (rd.texts (k - j) Lj 0).1, (rd.texts (k - j) Lj 0).2)) ∧ wx.ownsRow w.heap.size 9 1 l j (ns.map fun s => .string s) ∧ RrP A0 L0 wx r Lj ej ∧ Chg w wx (rrT r) ∧ (∀ s ∈ ns, s.size ≤ 100) ∧ (ej = 0 → e = 0)) (fun _ i _ => k - (intOf i).toNat)
      case atStart => exact ⟨0, [], L1, e1, by omega, rfl, rfl, fun hq => ⟨(HST.out hq).2, by rw [(HST.out hq).1]; simp⟩, World.ownsRow_nil _ _ _ _, H1.out.1, H1.out.2.1, (fun s hs => by cases hs), H1.out.2.2.2.2.2⟩
      case round =>
        obtain ⟨j, ns, Lj, ej, hj, rfl, hns, htx, hown, hrd, hcw, hsz, hee⟩ := hrel
        obtain ⟨Al, cl, rfl, -, -⟩ := own_at hown
        have c0 := hrd.cell.1
        have cll := hrd.lt
        by_cases hlt : j < k ∧ ej = 0
        · obtain ⟨hlt, rfl⟩ := hlt
          have hlt' : (j : Int) < (k : Int) := by omega
          have hby := rr.bytes A0 L0 r Lj 0 100 wr hrd (by omega)
          unfold RrBytes at hby
          have hrow : (Value.slice Al j cl).ownBlock ≠ some r := by
            obtain ⟨cs, hb⟩ := hrd.blk
            exact hb.not_row (by decide) hown
          rw [show k - j = (k - (j + 1)) + 1 by omega] at htx
          rw [rd.texts] at htx
          obtain ⟨q1, hq1⟩ : ∃ q, q = rd.piece Lj 0 100 := ⟨_, rfl⟩
          rw [← hq1] at htx hby
          clear hq1
          have HJ := Lib.hid (And.intro hby (And.intro hns (And.intro htx (And.intro hown (And.intro hcw (And.intro hrow (And.intro hsz hee))))))); clear hby hns htx hown hcw hrow hrd hsz hee
          go_wp2_with fail
          refine HJ.out.1.mono ?_
          rintro en w4 ⟨vb, P, Lj1, ej1, rfl, hpo, hpb, hr4, hc4, hpl, hpq, hpe⟩
          obtain ⟨Ap, cp, rfl, hpc1, -, hpat⟩ := own_bytes hpo
          have hcv := conv_any (P := Try.prog) (c := cp) Try.underlying23 Try.underlying5 Try.underlying9 P rfl hpat
          obtain ⟨m, hm⟩ : ∃ m, m = P.length := ⟨_, rfl⟩
          have hssz : (strOf P).size ≤ 100 := by rw [strOf_size]; omega
          have hstep : q0.2.2 = 0 → ej1 = 0 ∧ q0 = ((ns ++ [strOf P]) ++ (rd.texts (k - (j + 1)) Lj1 0).1, (rd.texts (k - (j + 1)) Lj1 0).2) := fun hq => by
            obtain ⟨-, g1⟩ := HJ.out.2.2.1 hq
            have g2 : (rd.texts (k - (j + 1)) q1.2.1 q1.2.2).2.2 = 0 := by
              have := hq
              rw [g1] at this
              exact this
            have g3 := rr.texts_e _ _ _ g2
            have g4 := hpq g3
            rw [← g4] at g1 g3
            dsimp only at g1 g3
            refine ⟨g3, ?_⟩
            rw [g1, g3, List.append_assoc]
            rfl
          rw [← hm] at hcv ⊢
          obtain ⟨s, hs⟩ : ∃ s, s = strOf P := ⟨_, rfl⟩
          rw [← hs] at hcv hssz hstep
          obtain ⟨wa, hwa⟩ : ∃ wa, wa = w4.alloc (.cells #[.string s] 9) := ⟨_, rfl⟩
          have hba : Below w4.heap.size w4 wa := by rw [hwa]; exact (Below.refl _ _).alloc (Nat.le_refl _) _
          have howna : wa.ownsRow w.heap.size 9 1 (.slice Al j cl) j (ns.map fun s => .string s) := (chg_of (P := fun _ => False) hba).own (hc4.own HJ.out.2.2.2.1 fun q hq e => HJ.out.2.2.2.2.2.1 (by rw [hq, show q = r from e])) fun _ _ q => q
          have hra := hr4.keep hba
          have hcwa : Chg w wa (rrT r) := (HJ.out.2.2.2.2.1.trans hc4 fun _ _ q => q).trans (chg_of (P := fun _ => False) hba) fun _ _ q => q.elim
          have hcell := pq.new_one w4 (.string s) 9 w4.heap.size rfl
          have happ : ∀ v2 w9, w9.ownsRow w.heap.size 9 1 v2 (j + 1) ((ns.map fun s => .string s) ++ [.string s]) → wa.grownBy w9 (Value.slice Al j cl).ownBlock → w9.ownsRow w.heap.size 9 1 v2 (j + 1) ((ns ++ [s]).map fun s => .string s) ∧ RrP A0 L0 w9 r Lj1 ej1 ∧ Chg w w9 (rrT r) := fun v2 w9 h1 h2 =>
            ⟨by rw [List.map_append]; exact h1, hra.chg (Chg.grown h2) HJ.out.2.2.2.2.2.1 fun q off hq e => by have h1 := (howna.lt q e).1; have h2 := HN.out.2.2 q off hq; omega, hcwa.trans (Chg.grown h2) fun q hq e => absurd (howna.lt q e).1 (Nat.not_le.2 hq)⟩
          have hszw : w.heap.size ≤ wa.heap.size := hcwa.size
          have hsz2 : ∀ x ∈ ns ++ [s], x.size ≤ 100 := fun x hx => by
            rcases List.mem_append.1 hx with h | h
            · exact HJ.out.2.2.2.2.2.2.1 x h
            · rw [List.mem_singleton.1 h]; exact hssz
          have HAPP := Lib.hid (And.intro happ (And.intro howna (And.intro hcell (And.intro hwa (And.intro hszw (And.intro hsz2 (And.intro hstep hpe))))))); clear happ howna hcell hwa hszw hba hra hcwa hr4 hc4 hsz2 hstep hpe hpq hpl hpb hpo hpat hpc1 hs hm hssz
          go_wp2_with (at_builtin; rw [← HAPP.out.2.2.2.1]; refine wpList_append_own_at _ rfl (.tmp 39) (.tmp 43) 22 rfl w.heap.size 9 i0 _ 1 16 Try.underlying22 HI.out.1 HI.out.2.1 HI.out.2.2.1 HI.out.2.2.2 rfl (by decide) (.slice Al j cl) j (ns.map fun s => .string s) rfl HAPP.out.2.1 ⟨w4.heap.size, 0, none⟩ 1 1 [.string s] rfl rfl (by rw [HAPP.out.2.2.2.1]; exact HAPP.out.2.2.1) (by simp [Value.oneCell']) (by unfold maxLen; omega) (by omega) HAPP.out.2.2.2.2.1 ?_; intro v2 w9 h1 h2 _ h3; have HN9 := Lib.hid (HAPP.out.1 v2 w9 h1 h2); clear h1 h2 h3)
          go_wp2_with fail
          go_roundw
          case rel => exact ⟨j + 1, ns ++ [s], Lj1, ej1, by omega, by go_num, by rw [List.length_append, HJ.out.2.1]; rfl, HAPP.out.2.2.2.2.2.2.1, HN9.out.1, HN9.out.2.1, HN9.out.2.2, HAPP.out.2.2.2.2.2.1, fun h => HJ.out.2.2.2.2.2.2.2 (by first | rfl | trivial)⟩
          case measure => simp [intOf]; omega
        · have hfin : q0.2.2 = 0 → (ns, Lj, ej) = q0 := fun hq => by
            obtain ⟨g1, g2⟩ := htx hq
            have hjk : k - j = 0 := by
              by_cases h : j < k
              · exact absurd ⟨h, g1⟩ hlt
              · omega
            rw [g2, hjk, g1]
            simp [rd.texts]
          have hcase : (¬ (j : Int) < (k : Int)) ∨ ((j : Int) < (k : Int) ∧ (ej == 0) = false) := by
            by_cases h : j < k
            · exact .inr ⟨by omega, by simp; exact fun h0 => hlt ⟨h, h0⟩⟩
            · exact .inl (by omega)
          have HF := Lib.hid (And.intro hns (And.intro hown (And.intro hrd (And.intro hcw (And.intro hsz (And.intro hee hfin)))))); clear hns hown hrd hcw hsz hee hfin htx hlt
          rcases hcase with d1 | ⟨d1, d2⟩
          · have d3 : decide (j < k) = false := decide_eq_false (by omega)
            have d4 : decide ((j : Int) < (k : Int)) = false := decide_eq_false d1
            go_wp2_with fail
            go_ret
            unfold RrTextsQ
            exact ⟨_, ns, Lj, ej, rfl, by rw [HF.out.1]; exact HF.out.2.1, HF.out.2.2.2.2.1, HF.out.2.2.1, HF.out.2.2.2.1, HF.out.2.2.2.2.2.2, HF.out.2.2.2.2.2.1⟩
          · go_wp2_with fail
            go_ret
            unfold RrTextsQ
            exact ⟨_, ns, Lj, ej, rfl, by rw [HF.out.1]; exact HF.out.2.1, HF.out.2.2.2.2.1, HF.out.2.2.1, HF.out.2.2.2.1, HF.out.2.2.2.2.2.2, HF.out.2.2.2.2.2.1⟩
end
section
open Go.RowKit
set_option maxRecDepth 20000
theorem qf.num_err (L : List Nat) (e : Int) (h : e = 0 ∨ e = 2 ∨ e = 3) : (rd.num L e).2.2 = 0 ∨ (rd.num L e).2.2 = 2 ∨ (rd.num L e).2.2 = 3 := by
  unfold rd.num
  split
  · exact h
  · split
    · exact .inr (.inl rfl)
    · exact .inl rfl
theorem qf.piece_err (L : List Nat) (e most : Int) (h : e = 0 ∨ e = 2 ∨ e = 3) : (rd.piece L e most).2.2 = 0 ∨ (rd.piece L e most).2.2 = 2 ∨ (rd.piece L e most).2.2 = 3 := by
  have h1 := qf.num_err L e h
  unfold rd.piece rd.cut
  split
  · exact h1
  · split
    · exact .inr (.inl rfl)
    · split
      · exact .inr (.inr rfl)
      · exact .inl rfl
theorem qf.texts_err : ∀ (k : Nat) (L : List Nat) (e : Int), (e = 0 ∨ e = 2 ∨ e = 3) → (rd.texts k L e).2.2 = 0 ∨ (rd.texts k L e).2.2 = 2 ∨ (rd.texts k L e).2.2 = 3
  | 0, _, _, h => h
  | k + 1, L, e, h => by
    rw [rd.texts]
    exact qf.texts_err k _ _ (qf.piece_err L e 100 h)
theorem qf.list_err (most : Int) (L : List Nat) (e : Int) (h : e = 0 ∨ e = 2 ∨ e = 3) : (pq.list most L e).2.2 = 0 ∨ (pq.list most L e).2.2 = 2 ∨ (pq.list most L e).2.2 = 3 := by
  unfold pq.list
  split
  · exact .inr (.inl rfl)
  · exact qf.texts_err _ _ _ (qf.num_err L e h)
theorem qf.rest_err (k c : Int) (L : List Nat) : (pq.rest k c L 0).2 = 0 ∨ (pq.rest k c L 0).2 = 2 ∨ (pq.rest k c L 0).2 = 3 := by
  unfold pq.rest
  dsimp only
  split
  · exact qf.list_err _ _ _ (qf.num_err _ _ (qf.piece_err _ _ _ (qf.piece_err _ _ _ (qf.num_err _ _ (qf.num_err _ _ (qf.num_err _ _ (qf.num_err _ _ (qf.piece_err _ _ _ (qf.piece_err _ _ _ (.inl rfl))))))))))
  · split
    · exact .inr (.inl rfl)
    · exact qf.piece_err _ _ _ (.inl rfl)
theorem qf.dec_eq (L : List Nat) (h6 : 6 ≤ L.length) (hL : L.length ≤ 5000) : pq.dec L =
    if ((wire.val (L.take 2) : Nat) : Int) < 1 ∨ 14 < ((wire.val (L.take 2) : Nat) : Int) then (pq.noReq, if 2147483647 < ((wire.val ((L.drop 2).take 4) : Nat) : Int) then 0 else ((wire.val ((L.drop 2).take 4) : Nat) : Int), 16)
    else if 2147483647 < ((wire.val ((L.drop 2).take 4) : Nat) : Int) then (pq.noReq, 0, 2)
    else if (pq.rest ((wire.val (L.take 2) : Nat) : Int) ((wire.val ((L.drop 2).take 4) : Nat) : Int) (L.drop 6) 0).2 ≠ 0 then (pq.noReq, ((wire.val ((L.drop 2).take 4) : Nat) : Int), (pq.rest ((wire.val (L.take 2) : Nat) : Int) ((wire.val ((L.drop 2).take 4) : Nat) : Int) (L.drop 6) 0).2)
    else ((pq.rest ((wire.val (L.take 2) : Nat) : Int) ((wire.val ((L.drop 2).take 4) : Nat) : Int) (L.drop 6) 0).1, ((wire.val ((L.drop 2).take 4) : Nat) : Int), 0) := by
  have f1 : rd.fixed L 0 2 = (((wire.val (L.take 2) : Nat) : Int), L.drop 2, 0) := by
    unfold rd.fixed
    rw [if_neg (by simp), if_neg (by unfold rd.fbad; omega)]
    rfl
  have f2 : rd.fixed (L.drop 2) 0 4 = (((wire.val ((L.drop 2).take 4) : Nat) : Int), L.drop 6, 0) := by
    unfold rd.fixed
    rw [if_neg (by simp), if_neg (by unfold rd.fbad; rw [List.length_drop]; omega)]
    show (_, (L.drop 2).drop 4, _) = _
    rw [List.drop_drop]
    rfl
  unfold pq.dec
  rw [f1]
  dsimp only
  rw [f2]
  dsimp only
  rw [if_neg (by omega), if_neg (by omega)]
  generalize pq.rest _ _ _ _ = T
  generalize ((wire.val (L.take 2) : Nat) : Int) = kd
  generalize ((wire.val ((L.drop 2).take 4) : Nat) : Int) = co
  by_cases h1 : kd < 1 ∨ 14 < kd
  · rw [if_pos h1, if_pos h1]
  · rw [if_neg h1, if_neg h1]
    by_cases h2 : 2147483647 < co
    · rw [if_pos h2, if_pos h2]
    · rw [if_neg h2, if_neg h2, if_neg h2]
theorem qf.dec_low (L : List Nat) (h6 : L.length < 6) : pq.dec L = (pq.noReq, 0, 2) := by
  unfold pq.dec
  dsimp only
  rw [if_neg (by omega), if_pos h6]
/-- Where the program's reading comes to its end well, the document's comes there too. -/
theorem qf.chain (kd co : Int) (L2 : List Nat) {B0 M0 B1 M1 B6 M6 B7 M7 D M10 M2 M3 M4 M5 M8 M9 : List Nat} {f0 f1 f2 f3 f4 f5 f6 f7 f8 f9 f10 n2 n3 n4 n5 n8 : Int} {ns : List ByteArray}
    (h0 : (rd.piece L2 0 100).2.2 = 0 → (B0, M0, f0) = rd.piece L2 0 100) (h1 : (rd.piece M0 f0 100).2.2 = 0 → (B1, M1, f1) = rd.piece M0 f0 100) (h2 : (rd.num M1 f1).2.2 = 0 → (n2, M2, f2) = rd.num M1 f1) (h3 : (rd.num M2 f2).2.2 = 0 → (n3, M3, f3) = rd.num M2 f2)
    (h4 : (rd.num M3 f3).2.2 = 0 → (n4, M4, f4) = rd.num M3 f3) (h5 : (rd.num M4 f4).2.2 = 0 → (n5, M5, f5) = rd.num M4 f4) (h6 : (rd.piece M5 f5 100).2.2 = 0 → (B6, M6, f6) = rd.piece M5 f5 100) (h7 : (rd.piece M6 f6 100).2.2 = 0 → (B7, M7, f7) = rd.piece M6 f6 100)
    (h8 : (rd.num M7 f7).2.2 = 0 → (n8, M8, f8) = rd.num M7 f7) (h9 : (pq.list 30 M8 f8).2.2 = 0 → (ns, M9, f9) = pq.list 30 M8 f8) (h10 : (rd.piece M9 f9 65536).2.2 = 0 → (D, M10, f10) = rd.piece M9 f9 65536) (hok : (pq.rest kd co L2 0).2 = 0) :
    (pq.rest kd co L2 0).1 = ⟨kd, co, strOf B0, strOf B1, n2, n3, n4, n5, strOf B6, strOf B7, n8, ns, D⟩ ∧ f10 = 0 := by
  obtain ⟨R, hR⟩ : ∃ R, R = pq.rest kd co L2 0 := ⟨_, rfl⟩
  rw [← hR] at hok ⊢
  unfold pq.rest at hR
  obtain ⟨⟨b0, m0, e0⟩, q0⟩ : ∃ q, rd.piece L2 0 100 = q := ⟨_, rfl⟩
  obtain ⟨⟨b1, m1, e1⟩, q1⟩ : ∃ q, rd.piece m0 e0 100 = q := ⟨_, rfl⟩
  obtain ⟨⟨c2, m2, e2⟩, q2⟩ : ∃ q, rd.num m1 e1 = q := ⟨_, rfl⟩
  obtain ⟨⟨c3, m3, e3⟩, q3⟩ : ∃ q, rd.num m2 e2 = q := ⟨_, rfl⟩
  obtain ⟨⟨c4, m4, e4⟩, q4⟩ : ∃ q, rd.num m3 e3 = q := ⟨_, rfl⟩
  obtain ⟨⟨c5, m5, e5⟩, q5⟩ : ∃ q, rd.num m4 e4 = q := ⟨_, rfl⟩
  obtain ⟨⟨b6, m6, e6⟩, q6⟩ : ∃ q, rd.piece m5 e5 100 = q := ⟨_, rfl⟩
  obtain ⟨⟨b7, m7, e7⟩, q7⟩ : ∃ q, rd.piece m6 e6 100 = q := ⟨_, rfl⟩
  obtain ⟨⟨c8, m8, e8⟩, q8⟩ : ∃ q, rd.num m7 e7 = q := ⟨_, rfl⟩
  obtain ⟨⟨l9, m9, e9⟩, q9⟩ : ∃ q, pq.list 30 m8 e8 = q := ⟨_, rfl⟩
  obtain ⟨⟨d10, m10, e10⟩, q10⟩ : ∃ q, rd.piece m9 0 65536 = q := ⟨_, rfl⟩
  simp only [q0, q1, q2, q3, q4, q5, q6, q7, q8, q9, q10] at hR
  by_cases c6 : e9 = 0
  case neg => rw [if_pos c6] at hR; rw [hR] at hok; exact absurd hok c6
  subst c6
  rw [if_neg (by simp)] at hR
  have c7 : e10 = 0 := by
    rw [hR] at hok
    dsimp only at hok
    split at hok
    · cases hok
    · exact hok
  subst c7
  have z8 : e8 = 0 := rd.num_e (rr.list_e (most := 30) (L := m8) (e := e8) (by rw [q9])).1
  subst z8
  have z7 : e7 = 0 := rd.num_e (L := m7) (by rw [q8])
  subst z7
  have z6 : e6 = 0 := rd.piece_e (L := m6) (most := 100) (by rw [q7])
  subst z6
  have z5 : e5 = 0 := rd.piece_e (L := m5) (most := 100) (by rw [q6])
  subst z5
  have z4 : e4 = 0 := rd.num_e (L := m4) (by rw [q5])
  subst z4
  have z3 : e3 = 0 := rd.num_e (L := m3) (by rw [q4])
  subst z3
  have z2 : e2 = 0 := rd.num_e (L := m2) (by rw [q3])
  subst z2
  have z1 : e1 = 0 := rd.num_e (L := m1) (by rw [q2])
  subst z1
  have z0 : e0 = 0 := rd.piece_e (L := m0) (most := 100) (by rw [q1])
  subst z0
  have k0 := h0 (by rw [q0])
  rw [q0] at k0
  injection k0 with k0a k0b; injection k0b with k0b k0c; subst k0a k0b k0c
  have k1 := h1 (by rw [q1])
  rw [q1] at k1
  injection k1 with k1a k1b; injection k1b with k1b k1c; subst k1a k1b k1c
  have k2 := h2 (by rw [q2])
  rw [q2] at k2
  injection k2 with k2a k2b; injection k2b with k2b k2c; subst k2a k2b k2c
  have k3 := h3 (by rw [q3])
  rw [q3] at k3
  injection k3 with k3a k3b; injection k3b with k3b k3c; subst k3a k3b k3c
  have k4 := h4 (by rw [q4])
  rw [q4] at k4
  injection k4 with k4a k4b; injection k4b with k4b k4c; subst k4a k4b k4c
  have k5 := h5 (by rw [q5])
  rw [q5] at k5
  injection k5 with k5a k5b; injection k5b with k5b k5c; subst k5a k5b k5c
  have k6 := h6 (by rw [q6])
  rw [q6] at k6
  injection k6 with k6a k6b; injection k6b with k6b k6c; subst k6a k6b k6c
  have k7 := h7 (by rw [q7])
  rw [q7] at k7
  injection k7 with k7a k7b; injection k7b with k7b k7c; subst k7a k7b k7c
  have k8 := h8 (by rw [q8])
  rw [q8] at k8
  injection k8 with k8a k8b; injection k8b with k8b k8c; subst k8a k8b k8c
  have k9 := h9 (by rw [q9])
  rw [q9] at k9
  injection k9 with k9a k9b; injection k9b with k9b k9c; subst k9a k9b k9c
  have k10 := h10 (by rw [q10])
  rw [q10] at k10
  injection k10 with ka kb; injection kb with kb kc; subst ka kb kc
  exact ⟨by rw [hR], rfl⟩
/-- A request that may be, and whose bytes are L, is what L is read as. -/
theorem qf.dec_of (L : List Nat) (X : PReq) (hf : X.fit) (hc : pq.check X = 0) (hb : pq.bytes X = L) : pq.dec L = (X, X.corr, 0) := by
  have hl := (pq.bytes_len hc).2
  have h := pq.dec_put X [] hf hc (by rw [List.append_nil]; exact hl)
  rw [List.append_nil, if_neg (by simp), hb] at h
  exact h
end
end Go.Proofs.Ytimcpbbcealkiaa

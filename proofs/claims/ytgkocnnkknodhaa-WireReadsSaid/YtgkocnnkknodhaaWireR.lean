/- The walk of the law WireReads. -/
import Derived.Deep.CutRange
import Derived.Deep.CutBlock
import Derived.Test.YtgkocnnkknodhaaPlan
import Derived.Test.YtgkocnnkknodhaaWireW
import Derived.Test.YtgkocnnkknodhaaRefC
import Derived.Test.YtgkocnnkknodhaaRest
import Derived.Test.YtgkocnnkknodhaaRdY
import Derived.Test.YtgkocnnkknodhaaRdK
import Derived.Test.YtgkocnnkknodhaaAlike
import Derived.Test.YtgkocnnkknodhaaOpen
namespace Go.Proofs.Ytgkocnnkknodhaa
open Go.RowKit

/-- What the law's loop holds: the place j, what is left at Al, the error e; the reader r has the same. -/
structure RdsAt (w : World) (r : Nat) (Al : Option Addr) (cl : Nat) (M : List Nat) (e : Int) (wr : World) : Prop where
  at' : At w Al M.length (byteAt M)
  byte : ∀ x ∈ M, x < 256
  len : M.length ≤ 300
  le : M.length ≤ cl
  cap : cl ≤ maxLen
  rd : RdIs wr r (if e = 0 then M else []) e
  new : w.heap.size ≤ r
  err : e = 0 ∨ e = 2 ∨ e = 3
  bel : Below w.heap.size w wr

theorem RdsAt.next {w wr wx : World} {r : Nat} {Al Al' : Option Addr} {cl cl' : Nat} {M M' : List Nat} {e e' : Int} (h : RdsAt w r Al cl M e wr) (h1 : At w Al' M'.length (byteAt M')) (h2 : ∀ x ∈ M', x < 256) (h3 : M'.length ≤ 300) (h4 : M'.length ≤ cl') (h5 : cl' ≤ maxLen)
    (h6 : RdIs wx r (if e' = 0 then M' else []) e') (h7 : e' = 0 ∨ e' = 2 ∨ e' = 3) (hc : Chg wr wx (rdT r)) : RdsAt w r Al' cl' M' e' wx :=
  ⟨h1, h2, h3, h4, h5, h6, h.new, h7, h.bel.trans (hc.below h.bel.size fun k hk => by have e : k = r := hk; have := h.new; omega)⟩
/-- The error alone turns. -/
theorem RdsAt.bad {w wr wx : World} {r : Nat} {Al : Option Addr} {cl : Nat} {M : List Nat} {e e' : Int} (h : RdsAt w r Al cl M e wr) (h6 : RdIs wx r [] e') (h7 : e' = 2 ∨ e' = 3) (hc : Chg wr wx (rdT r)) : RdsAt w r Al cl M e' wx :=
  h.next h.at' h.byte h.len h.le h.cap (by rw [if_neg (by omega)]; exact h6) (.inr h7) hc
/-- Less is left. -/
theorem RdsAt.less {w wr wx : World} {r : Nat} {b off cl : Nat} {M : List Nat} {e : Int} (h : RdsAt w r (some ⟨b, off, none⟩) cl M e wr) (k : Nat) (hk : k ≤ M.length) {Al' : Option Addr} {n' : Nat} (hn' : n' = M.length - k) (ha : Al' = some ⟨b, off + k, none⟩ ∨ M.length - k = 0)
    {cl' : Nat} (hc1 : M.length - k ≤ cl') (hc2 : cl' ≤ maxLen) (h6 : RdIs wx r (M.drop k) 0) (hc : Chg wr wx (rdT r)) :
    ∃ (Al : Option Addr) (M' : List Nat) (cl'' : Nat) (ee : Int), Value.slice Al' n' cl' = .slice Al M'.length cl'' ∧ Value.int .i64 0 = .int .i64 ee ∧ RdsAt w r Al cl'' M' ee wx := by
  have hl : (M.drop k).length = M.length - k := List.length_drop
  refine ⟨Al', M.drop k, cl', 0, by rw [hl, hn'], rfl, h.next ?_ (fun x hx => h.byte x (List.mem_of_mem_drop hx)) (by have := h.len; omega) (by omega) hc2 (by rw [if_pos rfl]; exact h6) (.inl rfl) hc⟩
  rw [hl]
  rcases ha with rfl | h0
  · have := h.at'.byte_from k
    simpa [add_none] using this
  · exact At.none0 h0
theorem rd.fixed_e {L : List Nat} {e n : Int} (h : e ≠ 0) : rd.fixed L e n = (0, L, e) := if_pos h
theorem rd.fixed_bad {L : List Nat} {n : Int} (h : rd.fbad L n) : rd.fixed L 0 n = (0, [], 2) := by unfold rd.fixed; rw [if_neg (by decide), if_pos h]
theorem rd.fixed_good {L : List Nat} {n : Nat} (h : ¬ rd.fbad L (n : Int)) : rd.fixed L 0 (n : Int) = (((wire.val (L.take n) : Nat) : Int), L.drop n, 0) := by unfold rd.fixed; rw [if_neg (by decide), if_neg h, Int.toNat_natCast]

theorem rd.piece_is (M : List Nat) (most : Int) : ((rd.piece M 0 most).2.2 = 0 ∨ (((rd.piece M 0 most).2.2 = 2 ∨ (rd.piece M 0 most).2.2 = 3) ∧ (rd.piece M 0 most).1 = [] ∧ (rd.piece M 0 most).2.1 = [])) ∧ (∀ x ∈ (rd.piece M 0 most).2.1, x ∈ M) ∧ (rd.piece M 0 most).2.1.length ≤ M.length := by
  unfold rd.piece rd.num
  rw [if_neg (by decide)]
  cases num.getL M with
  | none => simp [rd.cut]
  | some q =>
    obtain ⟨u, k⟩ := q
    unfold rd.cut
    dsimp only
    rw [if_neg (by decide)]
    split
    · simp
    · split
      · simp
      · exact ⟨.inl rfl, fun x hx => List.mem_of_mem_drop (List.mem_of_mem_drop hx), by simp only [List.length_drop]; omega⟩
theorem rd.piece_e {L : List Nat} {e most : Int} (h : e ≠ 0) : rd.piece L e most = ([], L, e) := by
  unfold rd.piece
  rw [rd.num_err h]
  exact if_pos h
theorem RdIs.drew {w : World} {r : Nat} {L : List Nat} {e : Int} (h : RdIs w r L e) (q : Nat) : RdIs (w.drewN q) r L e := h.keep (bdrew (Below.refl _ w) q)

theorem RdsAt.drew {w wr : World} {r : Nat} {Al : Option Addr} {cl : Nat} {M : List Nat} {e : Int} (h : RdsAt w r Al cl M e wr) (q : Nat) : RdsAt w r Al cl M e (wr.drewN q) := { h with rd := h.rd.drew q, bel := bdrew h.bel q }

theorem wire.piece_nil (most : Int) (w : World) :
    Calls Try.prog 79 #[.pointer none, .int .i64 most] w fun en w' => en = .returned (.slice none 0 0) ∧ w = w' := by
  go_enter Try.func79, Try.ntmps79
  go_wp2_with fail
  refine (wire.rnum_nil w).mono ?_
  rintro en w' ⟨rfl, rfl⟩
  go_wp2_with fail
  refine (wire.err_nil w).mono ?_
  rintro en w' ⟨rfl, rfl⟩
  go_wp2
  go_ret
  exact ⟨rfl, rfl⟩
theorem wire.rbytes_nil (most : Int) (w : World) :
    Calls Try.prog 23 #[.pointer none, .int .i64 most] w fun en w' => (∃ A c, en = .returned (.slice A 0 c)) ∧ Below w.heap.size w w' := by
  go_enter Try.func23, Try.ntmps23
  go_wp2_with fail
  refine (wire.piece_nil most w).mono ?_
  rintro en w' ⟨rfl, rfl⟩
  go_wp2_with fail
  refine (clone_any none 0 0 [] w rfl (by omega) (At.none0 rfl)).mono ?_
  rintro en w2 ⟨⟨v, rfl, hown⟩, hb⟩
  obtain ⟨A, c, rfl, -, -, -⟩ := own_bytes hown
  have HB := Lib.hid hb; clear hb hown
  go_wp2
  go_ret
  exact ⟨⟨A, c, rfl⟩, HB.out⟩

set_option maxRecDepth 20000 in
set_option maxHeartbeats 4000000 in
theorem wire.lawReads (A : Option Addr) (n c : Nat) (L : List Nat) (B : Option Addr) (m d : Nat) (z : List Int) (most : Int) (w : World) (hl : L.length = n) (hnc : n ≤ c) (hcm : c ≤ maxLen) (hat : At w A n (byteAt L)) (hb : ∀ x ∈ L, x < 256)
    (hmd : m ≤ d) (_ : d ≤ maxLen) (hbt : At w B m (fun j => .int .i64 (z.getD j 0))) (hz : ∀ j, -9223372036854775808 ≤ z.getD j 0 ∧ z.getD j 0 ≤ 9223372036854775807) (hmost : -9223372036854775808 ≤ most ∧ most ≤ 9223372036854775807) (hn : n ≤ 300) (hm : m ≤ 60) (hmo : 0 ≤ most ∧ most ≤ 1048576) :
    Calls Try.prog 3 #[.slice A n c, .slice B m d, .int .i64 most] w fun e w' => e = .returned (.bool true) ∧ Below w.heap.size w w' := by
  have HAT := Lib.hid hat; clear hat
  have HB := Lib.hid hb; clear hb
  have HL := Lib.hid hl; clear hl
  have HBT := Lib.hid hbt; clear hbt
  have HZ := Lib.hid hz; clear hz
  go_enter Try.func3, Try.ntmps3
  go_wp2_with fail
  refine (wire.new_at A n c L w HL.out HAT.out (by omega) HB.out).mono ?_
  rintro e w1 ⟨r, rfl, hrd, hr, hb1⟩
  have HRD := Lib.hid hrd; clear hrd
  have HB1 := Lib.hid hb1; clear hb1
  go_wp2_with fail
  go_loopw [8, 9, 10] (fun l e i wr => ∃ (j : Nat) (Al : Option Addr) (M : List Nat) (cl : Nat) (ee : Int), j ≤ m ∧ i = .int .i64 (j : Int) ∧ l = .slice Al M.length cl ∧ e = .int .i64 ee ∧ RdsAt w r Al cl M ee wr) (fun _ _ i _ => m - (intOf i).toNat)
  case atStart => exact ⟨0, A, L, c, 0, by omega, rfl, by rw [HL.out], rfl, { at' := by rw [HL.out]; exact HAT.out, byte := HB.out, len := by rw [HL.out]; omega, le := by rw [HL.out]; omega, cap := hcm, rd := HRD.out, new := hr, err := .inl rfl, bel := HB1.out }⟩
  case round =>
    obtain ⟨j, Al, M, cl, ee, hj, rfl, rfl, rfl, hst⟩ := hrel
    have HST := Lib.hid hst; clear hst
    by_cases hlt : j < m
    · obtain ⟨b, off, rfl, hbb, hck⟩ := (HBT.out.below HST.out.bel (Nat.le_refl _)) (by omega)
      have hcj := hck j hlt
      have hzj := HZ.out j
      dsimp only at hcj
      generalize z.getD j 0 = y at *
      clear hck
      go_wp2_with fail
      refine (round_any y 11 wr hzj (by omega) (by omega)).mono ?_
      rintro e w' ⟨⟨k, rfl, hk⟩, rfl⟩
      go_upto_block 2 with fail
      go_cut [8, 9] from 46 to 180 (fun l e wx => ∃ (Al : Option Addr) (M : List Nat) (cl : Nat) (ee : Int), l = .slice Al M.length cl ∧ e = .int .i64 ee ∧ RdsAt w r Al cl M ee wx)
      case first =>
        by_cases hk8 : k < 8
        · as_aux_lemma =>
          have hk8' : (k : Int) < 8 := by omega
          by_cases he : ee = 0
          · subst he
            obtain ⟨Ar, cr, hrd⟩ := HST.out.rd
            rw [if_pos rfl] at hrd
            by_cases hlen : M.length < k + 1
            · have hf := wire.rfixed_any r Ar cr M 0 ((k : Int) + 1) wr hrd
              rw [rd.fixed_bad (by unfold rd.fbad; omega)] at hf
              have HF := Lib.hid hf; clear hf hrd
              go_wp2_with fail
              refine HF.out.mono ?_
              rintro e w2 ⟨rfl, hrd, hch⟩
              have HN := Lib.hid (HST.out.bad hrd (.inl rfl) hch); clear hrd hch
              go_wp2_with fail
              go_meet
              case rel => exact ⟨Al, M, cl, 2, rfl, rfl, HN.out⟩
            · obtain ⟨b2, off2, rfl, hb2, hc2⟩ := (HST.out.at'.below HST.out.bel (Nat.le_refl _)) (by omega)
              have hx0 : wr.cell? ⟨b2, off2, none⟩ = some (.int .u8 ((M.getD 0 0 : Nat) : Int)) := hc2 0 (by omega)
              have hgf := wire.refgetfixed_any (some ⟨b2, off2, none⟩) (k + 1) cl (M.take (k + 1)) wr (by rw [List.length_take]; omega) (HST.out.at'.below HST.out.bel (Nat.le_refl _) |>.byte_le (k + 1) (by omega)) (fun x hx => HST.out.byte x (List.mem_of_mem_take hx)) (by omega)
              have HGF := Lib.hid hgf; clear hgf hc2
              have hle := HST.out.le
              have hcap := HST.out.cap
              unfold maxLen at hcap
              by_cases hbad : k = 7 ∧ 127 < M.getD 0 0
              · have hf := wire.rfixed_any r Ar cr M 0 ((k : Int) + 1) wr hrd
                rw [rd.fixed_bad (by unfold rd.fbad; omega)] at hf
                have HF := Lib.hid hf; clear hf hrd
                obtain ⟨hk7, h127⟩ := hbad
                have h78 : ((k : Int) + 1 == 8) = true := by simp; omega
                have h127' : (127 : Int) < ((M.getD 0 0 : Nat) : Int) := by omega
                clear hk7
                generalize M.getD 0 0 = x0 at *
                go_wp2_with fail
                refine HF.out.mono ?_
                rintro e w2 ⟨rfl, hrd, hch⟩
                have HN := Lib.hid (HST.out.bad hrd (.inl rfl) hch); clear hrd hch
                go_wp2_with fail
                go_meet
                case rel => exact ⟨some ⟨b2, off2, none⟩, M, cl, 2, rfl, rfl, HN.out⟩
              · have hgood : ¬ rd.fbad M (((k + 1 : Nat)) : Int) := by unfold rd.fbad; omega
                have hf := wire.rfixed_any r Ar cr M 0 (((k + 1 : Nat)) : Int) wr hrd
                rw [rd.fixed_good hgood, show (((k + 1 : Nat)) : Int) = (k : Int) + 1 by omega] at hf
                have HF := Lib.hid hf; clear hf hrd hgood
                have hgetd : (M.take (k + 1)).getD 0 0 = M.getD 0 0 := getD_take M (k + 1) 0 (by omega)
                have hgf2 := HGF.out (fun e => by rw [hgetd]; omega)
                have HGF2 := Lib.hid hgf2; clear hgf2 hgetd HGF
                have h78 : ((k : Int) + 1 == 8) = false ∨ (((k : Int) + 1 == 8) = true ∧ ¬ (127 : Int) < ((M.getD 0 0 : Nat) : Int)) := by
                  by_cases h : k = 7
                  · right; exact ⟨by simp; omega, by omega⟩
                  · left; simp; omega
                clear hbad
                generalize M.getD 0 0 = x0 at *
                rcases h78 with h78 | ⟨h78, h127⟩
                all_goals
                  rcases (show cl = k + 1 ∨ ¬ cl = k + 1 by omega) with rfl | hcl
                  all_goals
                    go_wp2_with fail
                    refine HGF2.out.mono ?_
                    rintro e w' ⟨rfl, rfl⟩
                    go_wp2_with fail
                    refine HF.out.mono ?_
                    rintro e w2 ⟨rfl, hrd, hch⟩
                    have HRD := Lib.hid hrd; clear hrd
                    have HCH := Lib.hid hch; clear hch
                    go_wp2_with fail
                    go_meet
                    case rel => refine HST.out.less (k + 1) (by omega) ?_ ?_ ?_ ?_ HRD.out HCH.out <;> first | omega | exact .inl rfl | exact .inr (by omega) | (unfold maxLen; omega)
          · have he2 : ee = 2 ∨ ee = 3 := by have := HST.out.err; omega
            obtain ⟨Ar, cr, hrd⟩ := HST.out.rd
            rw [if_neg he] at hrd
            have hf := wire.rfixed_any r Ar cr [] ee ((k : Int) + 1) wr hrd
            rw [rd.fixed_e he] at hf
            have HF := Lib.hid hf; clear hf hrd
            have HE2 := Lib.hid he2; clear he2
            go_wp2_with fail
            refine HF.out.mono ?_
            rintro e w2 ⟨rfl, hrd, hch⟩
            have HN := Lib.hid (HST.out.bad hrd HE2.out hch); clear hrd hch
            go_wp2_with fail
            go_meet
            case rel => exact ⟨Al, M, cl, ee, rfl, rfl, HN.out⟩
        have hk8' : ¬ (k : Int) < 8 := by omega
        by_cases hk88 : k = 8
        · as_aux_lemma =>
          have hk9 : ((k : Int) == 8) = true := by simp; omega
          clear hk88
          have hg := num.refget_any Al M.length cl (fun j => M.getD j 0) wr (by have := HST.out.len; omega) (HST.out.at'.below HST.out.bel (Nat.le_refl _)) (fun j hj => getD_all HST.out.byte j hj)
          have hgl : num.get (fun j => M.getD j 0) M.length = num.getL M := rfl
          rw [hgl] at hg
          clear hgl
          by_cases he : ee = 0
          · subst he
            obtain ⟨Ar, cr, hrd⟩ := HST.out.rd
            rw [if_pos rfl] at hrd
            have hf := wire.rnum_any r Ar cr M 0 wr hrd
            clear hrd
            cases hu : num.getL M with
            | none =>
              rw [hu] at hg
              have hn : rd.num M 0 = (0, [], 2) := by unfold rd.num; rw [if_neg (by decide), hu]
              rw [hn] at hf
              have HG := Lib.hid (show Calls Try.prog 20 #[.slice Al M.length cl] wr fun e w' => e = .returned (.tuple #[.int .i64 0, .int .i64 0]) ∧ wr = w' from hg); clear hg
              have HF := Lib.hid hf; clear hf hn hu
              go_wp2_with fail
              refine HG.out.mono ?_
              rintro e w' ⟨rfl, rfl⟩
              go_wp2_with fail
              refine HF.out.mono ?_
              rintro e w2 ⟨rfl, hrd, hch⟩
              have HN := Lib.hid (HST.out.bad hrd (.inl rfl) hch); clear hrd hch
              go_wp2_with fail
              go_meet
              case rel => exact ⟨Al, M, cl, 2, rfl, rfl, HN.out⟩
            | some q =>
              obtain ⟨u, k'⟩ := q
              obtain ⟨hk1, hk2⟩ := num.getL_le hu
              rw [hu] at hg
              have hn : rd.num M 0 = (num.zag u, M.drop k', 0) := by unfold rd.num; rw [if_neg (by decide), hu]
              rw [hn] at hf
              have hg' := (show Calls Try.prog 20 #[.slice Al M.length cl] wr fun e w' => e = .returned (.tuple #[.int .i64 (num.zag u), .int .i64 (k' : Int)]) ∧ wr = w' from hg)
              clear hg hn hu
              generalize num.zag u = v at *
              obtain ⟨b2, off2, rfl, hb2, -⟩ := (HST.out.at'.below HST.out.bel (Nat.le_refl _)) (by omega)
              have HG := Lib.hid hg'; clear hg'
              have HF := Lib.hid hf; clear hf
              have hle := HST.out.le
              have hcap := HST.out.cap
              have hlen := HST.out.len
              unfold maxLen at hcap
              have hk0 : ((k' : Int) == 0) = false := by simp; omega
              rcases (show cl = k' ∨ ¬ cl = k' by omega) with rfl | hcl
              all_goals
                go_wp2_with fail
                refine HG.out.mono ?_
                rintro e w' ⟨rfl, rfl⟩
                go_wp2_with fail
                refine HF.out.mono ?_
                rintro e w2 ⟨rfl, hrd, hch⟩
                have HRD := Lib.hid hrd; clear hrd
                have HCH := Lib.hid hch; clear hch
                go_wp2_with fail
                go_meet
                case rel => refine HST.out.less _ hk1 ?_ ?_ ?_ ?_ HRD.out HCH.out <;> first | omega | exact .inl rfl | exact .inr (by omega) | (unfold maxLen; omega)
          · have he2 : ee = 2 ∨ ee = 3 := by have := HST.out.err; omega
            obtain ⟨Ar, cr, hrd⟩ := HST.out.rd
            rw [if_neg he] at hrd
            have hf := wire.rnum_any r Ar cr [] ee wr hrd
            rw [rd.num_err he] at hf
            have HF := Lib.hid hf; clear hf hrd
            have HE2 := Lib.hid he2; clear he2
            have hr2 : ∃ v u : Int, num.res2 (num.getL M) = .tuple #[.int .i64 v, .int .i64 u] := by
              cases num.getL M with
              | none => exact ⟨_, _, rfl⟩
              | some q => exact ⟨_, _, rfl⟩
            obtain ⟨v, u, hv⟩ := hr2
            rw [hv] at hg
            have HG := Lib.hid hg; clear hg hv
            go_wp2_with fail
            refine HG.out.mono ?_
            rintro e w' ⟨rfl, rfl⟩
            go_wp2_with fail
            refine HF.out.mono ?_
            rintro e w2 ⟨rfl, hrd, hch⟩
            have HN := Lib.hid (HST.out.bad hrd HE2.out hch); clear hrd hch
            go_wp2_with fail
            go_meet
            case rel => exact ⟨Al, M, cl, ee, rfl, rfl, HN.out⟩
        have hk8f : ((k : Int) == 8) = false := by simp; omega
        have hk9 : ((k : Int) == 9) = true ∨ ((k : Int) == 9) = false := by cases ((k : Int) == 9) <;> simp
        clear hk88
        have hcn : ∀ w0 : World, (convert 22 9 (.slice none 0 0)).run Try.prog w0 = .ok (.string (strOf [])) w0 := fun w0 => conv_any Try.underlying22 Try.underlying5 Try.underlying9 [] rfl (At.none0 rfl)
        by_cases he : ee = 0
        · as_aux_lemma =>
          subst he
          have hg := wire.refgetbytes_any Al M.length cl M most wr rfl (HST.out.at'.below HST.out.bel (Nat.le_refl _)) HST.out.byte HST.out.le HST.out.cap (by have := HST.out.len; omega)
          have hrd := HST.out.rd
          rw [if_pos rfl] at hrd
          obtain ⟨hp1, hp2, hp3⟩ := rd.piece_is M most
          have hp4 := rd.piece_le M 0 most
          have hbt := fun (w0 : World) Ar cr h => wire.rbytes_any r Ar cr M 0 most w0 h (by have := HST.out.len; omega)
          have htx := fun (w0 : World) Ar cr h => wire.rtext_any r Ar cr M 0 most w0 h
          generalize rd.piece M 0 most = pc at *
          obtain ⟨x, more, f⟩ := pc
          dsimp only at *
          have HG := Lib.hid hg; clear hg
          have HBY := Lib.hid hbt; clear hbt
          have HTX := Lib.hid htx; clear htx
          have HP2 := Lib.hid hp2; clear hp2
          have HRD := Lib.hid hrd; clear hrd
          rcases hp1 with hf0 | ⟨hf, rfl, rfl⟩
          · subst hf0
            go_wp2_with fail
            refine HG.out.mono ?_
            rintro e w' ⟨⟨A1, c1, A2, c2, rfl, hats, hx1, hm1, hc2⟩, q, rfl⟩
            have HATS := Lib.hid hats; clear hats
            obtain ⟨Ar, cr, hrd⟩ := HRD.out.drew q
            have hby := HBY.out _ Ar cr hrd
            have htx := HTX.out _ Ar cr hrd
            clear hrd
            have hb := bdrew (Below.refl wr.heap.size wr) q
            have hch0 : Chg wr (wr.drewN q) (rdT r) := (Chg.refl wr (rdT r)).drewN q
            generalize wr.drewN q = wq at *
            have HBYQ := Lib.hid hby; clear hby
            have HTXQ := Lib.hid htx; clear htx
            have HCH0 := Lib.hid hch0; clear hch0 hb
            rcases hk9 with hk9 | hk9
            · go_wp2_with fail
              refine HBYQ.out.mono ?_
              rintro e w2 ⟨⟨v, rfl, hown⟩, hrd, hch⟩
              obtain ⟨A3, c3, rfl, -, hl3, hat3⟩ := own_bytes hown
              clear hown
              have hcx : Chg wr w2 (rdT r) := HCH0.out.trans hch fun _ _ h => h
              have hbx : Below w.heap.size w w2 := HST.out.bel.trans (hcx.below HST.out.bel.size fun k hk => by have e : k = r := hk; have := HST.out.new; omega)
              have hs1 := conv_any (c := c3) Try.underlying22 Try.underlying5 Try.underlying9 x hl3 hat3
              have hs2 := conv_any (c := c1) Try.underlying22 Try.underlying5 Try.underlying9 x rfl (HATS.out w2 (HST.out.at'.below hbx (Nat.le_refl _))).1
              have HN := Lib.hid (HST.out.next (HATS.out w HST.out.at').2 (fun y hy => HST.out.byte y (HP2.out y hy)) (by have := HST.out.len; omega) hm1 hc2 (by rw [if_pos rfl]; exact hrd) (.inl rfl) hcx)
              clear hat3 hrd hch hcx hbx
              go_wp2_with fail
              go_meet
              case rel => exact ⟨A2, more, c2, 0, rfl, rfl, HN.out⟩
            · go_wp2_with fail
              refine HTXQ.out.mono ?_
              rintro e w2 ⟨rfl, hrd, hch⟩
              have hcx : Chg wr w2 (rdT r) := HCH0.out.trans hch fun _ _ h => h
              have hbx : Below w.heap.size w w2 := HST.out.bel.trans (hcx.below HST.out.bel.size fun k hk => by have e : k = r := hk; have := HST.out.new; omega)
              have hs2 := conv_any (c := c1) Try.underlying22 Try.underlying5 Try.underlying9 x rfl (HATS.out w2 (HST.out.at'.below hbx (Nat.le_refl _))).1
              have HN := Lib.hid (HST.out.next (HATS.out w HST.out.at').2 (fun y hy => HST.out.byte y (HP2.out y hy)) (by have := HST.out.len; omega) hm1 hc2 (by rw [if_pos rfl]; exact hrd) (.inl rfl) hcx)
              clear hrd hch hcx hbx
              go_wp2_with fail
              go_meet
              case rel => exact ⟨A2, more, c2, 0, rfl, rfl, HN.out⟩
          · have hf0 : ¬ f = 0 := by omega
            have HF2 := Lib.hid hf; clear hf
            go_wp2_with fail
            refine HG.out.mono ?_
            rintro e w' ⟨⟨A1, c1, A2, c2, rfl, -, -, -, -⟩, q, rfl⟩
            obtain ⟨Ar, cr, hrd⟩ := HRD.out.drew q
            have hby := HBY.out _ Ar cr hrd
            have htx := HTX.out _ Ar cr hrd
            clear hrd
            have hch0 : Chg wr (wr.drewN q) (rdT r) := (Chg.refl wr (rdT r)).drewN q
            generalize wr.drewN q = wq at *
            have HBYQ := Lib.hid hby; clear hby
            have HTXQ := Lib.hid htx; clear htx
            have HCH0 := Lib.hid hch0; clear hch0
            rcases hk9 with hk9 | hk9
            · go_wp2_with fail
              refine HBYQ.out.mono ?_
              rintro e w2 ⟨⟨v, rfl, hown⟩, hrd, hch⟩
              obtain ⟨A3, c3, rfl, -, hl3, hat3⟩ := own_bytes hown
              clear hown
              have hcx : Chg wr w2 (rdT r) := HCH0.out.trans hch fun _ _ h => h
              have hs1 := conv_any (w := w2) (A := A3) (n := 0) (c := c3) Try.underlying22 Try.underlying5 Try.underlying9 [] rfl (At.none0 rfl)
              have HN := Lib.hid (HST.out.bad hrd HF2.out hcx)
              clear hat3 hrd hch hcx
              go_wp2_with fail
              go_meet
              case rel => exact ⟨Al, M, cl, f, rfl, rfl, HN.out⟩
            · go_wp2_with fail
              refine HTXQ.out.mono ?_
              rintro e w2 ⟨rfl, hrd, hch⟩
              have hcx : Chg wr w2 (rdT r) := HCH0.out.trans hch fun _ _ h => h
              have HN := Lib.hid (HST.out.bad hrd HF2.out hcx)
              clear hrd hch hcx
              go_wp2_with fail
              go_meet
              case rel => exact ⟨Al, M, cl, f, rfl, rfl, HN.out⟩
        · as_aux_lemma =>
          have he2 : ee = 2 ∨ ee = 3 := by have := HST.out.err; omega
          obtain ⟨Ar, cr, hrd⟩ := HST.out.rd
          rw [if_neg he] at hrd
          have hby := wire.rbytes_any r Ar cr [] ee most wr hrd (by simp)
          have htx := wire.rtext_any r Ar cr [] ee most wr hrd
          rw [rd.piece_e he] at hby htx
          have HBYQ := Lib.hid hby; clear hby
          have HTXQ := Lib.hid htx; clear htx hrd
          have HE2 := Lib.hid he2; clear he2
          rcases hk9 with hk9 | hk9
          · go_wp2_with fail
            refine HBYQ.out.mono ?_
            rintro e w2 ⟨⟨v, rfl, hown⟩, hrd, hch⟩
            obtain ⟨A3, c3, rfl, -, hl3, hat3⟩ := own_bytes hown
            clear hown
            have hs1 := conv_any (w := w2) (A := A3) (n := 0) (c := c3) Try.underlying22 Try.underlying5 Try.underlying9 [] rfl (At.none0 rfl)
            have HN := Lib.hid (HST.out.bad hrd HE2.out hch)
            clear hat3 hrd hch
            go_wp2_with fail
            go_meet
            case rel => exact ⟨Al, M, cl, ee, rfl, rfl, HN.out⟩
          · go_wp2_with fail
            refine HTXQ.out.mono ?_
            rintro e w2 ⟨rfl, hrd, hch⟩
            have HN := Lib.hid (HST.out.bad hrd HE2.out hch)
            clear hrd hch
            go_wp2_with fail
            go_meet
            case rel => exact ⟨Al, M, cl, ee, rfl, rfl, HN.out⟩
      case rest =>
        obtain ⟨Al, M, cl, ee, rfl, rfl, hst⟩ := hcut
        have HST2 := Lib.hid hst; clear hst HST
        by_cases he : ee = 0
        · as_aux_lemma =>
          subst he
          have hrd := HST2.out.rd
          rw [if_pos rfl] at hrd
          obtain ⟨Ar, cr, hrd⟩ := hrd
          have hlen := HST2.out.len
          have hrq : ∀ wx, Below wc.heap.size wc wx → Rd wx r Ar cr M 0 := fun wx hb => ⟨(chg_of (P := fun _ => False) hb).blk hrd.blk id, hrd.lie.below hb (Nat.le_refl _), hrd.len, hrd.cap, hrd.byte⟩
          have hcv : ∀ wx, Below wc.heap.size wc wx → (convert 22 9 (.slice Al M.length cl)).run Try.prog wx = .ok (.string (strOf M)) wx := fun wx hb => conv_any Try.underlying22 Try.underlying5 Try.underlying9 M rfl ((HST2.out.at'.below HST2.out.bel (Nat.le_refl _)).below hb (Nat.le_refl _))
          have hrlt : r < wc.heap.size := hrd.blk.lt
          have ht1000 : M.take 1000 = M := List.take_of_length_le (by omega)
          have ht2 : (M.take 2).length = min 2 M.length := List.length_take
          have HRD := Lib.hid hrq; clear hrq hrd
          have hb0 : Below wc.heap.size wc wc.drew := bdrew (Below.refl _ wc) 1
          have HB0 := Lib.hid hb0; clear hb0
          have hcv0 := hcv _ HB0.out
          have HCV := Lib.hid hcv; clear hcv
          have HT := Lib.hid ht1000; clear ht1000
          have HT2 := Lib.hid ht2; clear ht2
          have hnext : ∀ wx, Below wc.heap.size wc wx → RdsAt w r Al cl M 0 wx := fun wx hb => { HST2.out with rd := by rw [if_pos rfl]; exact ⟨Ar, cr, HRD.out wx hb⟩, bel := HST2.out.bel.trans (hb.mono HST2.out.bel.size) }
          have HN := Lib.hid hnext; clear hnext
          go_wp2_with fail
          have hS0 : later wc (fun _ => False) wc.drew := later_of ((Chg.refl _ _).drew)
          have hcvx : ∀ x : Later wc (fun _ => False), (convert 22 9 (.slice Al M.length cl)).run Try.prog x.1 = .ok (.string (strOf M)) x.1 := fun x => HCV.out x.1 (x.2.below (Nat.le_refl _) fun _ h => h.elim)
          clear hcv0
          have hrlt2 := hrlt
          have HRLT := Lib.hid hrlt2
          have HLE := Lib.hid (show M.length ≤ 1000000 by omega)
          clear hlen hrlt hrlt2
          refine wp_plan (S := fun w0 => ∃ x : Later wc (fun _ => False), w0 = x.1) (by kernel_rfl) hS0 ?_
          intro hS K hK
          have HS := Lib.hid hS; clear hS hS0
          refine plan_group [true, false, true] [0, 2] 30 (by dsimp only [sel]) (by rfl) rfl (by kernel_rfl) (by kernel_rfl) HS.out ?_
          (repeat go_big_quiet_step (fail))
          refine wpQuiet_nil ?_
          refine plan_one [false, true] 1 29 (by dsimp only [sel]) (by rfl) rfl (by kernel_rfl) ?_
          intro K1 hK1
          go_wp2_with fail
          refine (wire.left_any r Ar cr M 0 _ (HRD.out _ HB0.out)).mono ?_
          rintro e w' ⟨rfl, rfl⟩
          go_wp2_with fail
          refine ⟨HS.out, ?_⟩
          refine plan_group [false, false, false, true, true, true, false, true] [3, 4, 5, 7] 25 (by dsimp only [sel]) (by rfl) rfl (by kernel_rfl) (by kernel_rfl) HS.out ?_
          (repeat go_big_quiet_step (fail))
          refine wpQuiet_nil ?_
          refine plan_one [false, false, false, false, false, false, true] 6 24 (by dsimp only [sel]) (by rfl) rfl (by kernel_rfl) ?_
          intro K1 hK1
          go_wp2_with fail
          refine (wire.err_any r Ar cr M 0 _ (HRD.out _ HB0.out)).mono ?_
          rintro e w' ⟨rfl, rfl⟩
          go_wp2_with fail
          refine ⟨HS.out, ?_⟩
          refine plan_group [false, false, false, false, false, false, false, false, true, true, true, true, true, true, true, false, false, false, true, true] [8, 9, 10, 11, 12, 13, 14, 18, 19] 15 (by dsimp only [sel]) (by rfl) rfl (by kernel_rfl) (by kernel_rfl) HS.out ?_
          (repeat go_big_quiet_step (fail))
          refine wpQuiet_nil ?_
          refine plan_one [false, false, false, false, false, false, false, false, false, false, false, false, false, false, false, true] 15 14 (by dsimp only [sel]) (by rfl) rfl (by kernel_rfl) ?_
          intro K1 hK1
          go_wp2_with fail
          refine (wire.rest_any r _).mono ?_
          rintro e wx ⟨rfl, hwx⟩
          have hbx : Below wc.heap.size wc wx := by rw [hwx]; exact HB0.out.trans ((Below.refl _ wc.drew).alloc (Nat.le_refl _) _)
          have hzx : wx.heap.size = wc.heap.size + 1 := by rw [hwx]; simp
          have hcx : wx.cell? ⟨wc.heap.size, 0, none⟩ = some (.pointer (some ⟨r, 0, none⟩)) := by rw [hwx]; exact (Blk.new wc.drew _ _).cell 0 rfl
          clear hwx
          have HBX := Lib.hid hbx; clear hbx
          have HZX := Lib.hid hzx; clear hzx
          have HCX := Lib.hid hcx; clear hcx
          go_wp2_with fail
          refine ⟨later_of (chg_of HBX.out), ?_⟩
          refine plan_one [false, false, false, false, false, false, false, false, false, false, false, false, false, false, false, false, true] 16 13 (by dsimp only [sel]) (by rfl) rfl (by kernel_rfl) ?_
          intro K1 hK1
          go_wp2_with fail
          refine (wire.rests_any wc.heap.size r Ar cr M 1000 (by omega) HLE.out wx (by have := HZX.out; omega) (by have := HZX.out; have := HRLT.out; omega) HCX.out ((HRD.out _ HBX.out).blk.cell 0 rfl) (HRD.out _ HBX.out).lie).mono ?_
          rintro e w2 ⟨⟨v, rfl, hown⟩, hb2⟩
          have hm1000 : (1000 : Int).toNat = 1000 := rfl
          rw [hm1000, HT.out] at hown
          obtain ⟨A3, c3, rfl, -, -, hat3⟩ := own_bytes hown
          have hs1 := conv_any (c := c3) Try.underlying22 Try.underlying5 Try.underlying9 M rfl hat3
          have HB2 := Lib.hid (HBX.out.trans (hb2.mono HBX.out.size)); clear hb2 hown hat3 hm1000
          go_wp2_with fail
          refine ⟨later_of (chg_of HB2.out), ?_⟩
          refine plan_one [false, false, false, false, false, false, false, false, false, false, false, false, false, false, false, false, false, true] 17 12 (by dsimp only [sel]) (by rfl) rfl (by kernel_rfl) ?_
          intro K1 hK1
          go_wp2_with fail
          have HS2 := Lib.hid (later_of (chg_of (P := fun _ => False) HB2.out))
          refine ⟨later_of (chg_of HB2.out), ?_⟩
          refine plan_group [false, false, false, false, false, false, false, false, false, false, false, false, false, false, false, false, false, false, false, false, true, true, true, false, false, false, true, true] [20, 21, 22, 26, 27] 7 (by dsimp only [sel]) (by rfl) rfl (by kernel_rfl) (by kernel_rfl) HS2.out ?_
          (repeat go_big_quiet_step (fail))
          refine wpQuiet_nil ?_
          refine plan_one [false, false, false, false, false, false, false, false, false, false, false, false, false, false, false, false, false, false, false, false, false, false, false, true] 23 6 (by dsimp only [sel]) (by rfl) rfl (by kernel_rfl) ?_
          intro K1 hK1
          go_wp2_with fail
          all_goals
            refine (wire.rest_any r _).mono ?_
            rintro e w3 ⟨rfl, hw3⟩
            have hb3 : Below wc.heap.size wc w3 := by rw [hw3]; exact HB2.out.trans ((Below.refl _ w2).alloc HB2.out.size _)
            have hz3 : w3.heap.size = w2.heap.size + 1 := by rw [hw3]; simp
            have hc3 : w3.cell? ⟨w2.heap.size, 0, none⟩ = some (.pointer (some ⟨r, 0, none⟩)) := by rw [hw3]; exact (Blk.new w2 _ _).cell 0 rfl
            clear hw3
            have HB3 := Lib.hid hb3; clear hb3
            have HZ3 := Lib.hid hz3; clear hz3
            have HC3 := Lib.hid hc3; clear hc3
            go_wp2_with fail
            refine ⟨later_of (chg_of HB3.out), ?_⟩
            refine plan_one [false, false, false, false, false, false, false, false, false, false, false, false, false, false, false, false, false, false, false, false, false, false, false, false, true] 24 5 (by dsimp only [sel]) (by rfl) rfl (by kernel_rfl) ?_
            intro K1 hK1
            go_wp2_with fail
            refine (wire.rests_any w2.heap.size r Ar cr M 2 (by omega) HLE.out w3 (by have := HZ3.out; omega) (by have := HB3.out.size; have := HRLT.out; omega) HC3.out ((HRD.out _ HB3.out).blk.cell 0 rfl) (HRD.out _ HB3.out).lie).mono ?_
            rintro e w4 ⟨⟨v, rfl, hown⟩, hb4⟩
            have hm2 : (2 : Int).toNat = 2 := rfl
            rw [hm2] at hown
            obtain ⟨A4, c4, rfl, -, -, -⟩ := own_bytes hown
            have HB4 := Lib.hid (HB3.out.trans (hb4.mono HB3.out.size)); clear hb4 hown hm2
            first | rw [show (M.take 2).length = M.length by rw [HT2.out]; omega] | rw [show (M.take 2).length = 2 by rw [HT2.out]; omega]
            go_wp2_with fail
            refine ⟨later_of (chg_of HB4.out), ?_⟩
            have HS4 := Lib.hid (later_of (chg_of (P := fun _ => False) HB4.out))
            refine plan_group [false, false, false, false, false, false, false, false, false, false, false, false, false, false, false, false, false, false, false, false, false, false, false, false, false, true, false, false, true, true, true, true] [25, 28, 29, 30, 31] 0 (by dsimp only [sel]) (by rfl) rfl (by kernel_rfl) (by kernel_rfl) HS4.out ?_
            (repeat go_big_quiet_step (fail))
            refine wpQuiet_nil ?_
            refine wp_plan_end (by kernel_rfl) ?_
            go_wp2
            go_roundw
            case rel => exact ⟨j + 1, Al, M, cl, 0, by omega, by go_num, rfl, rfl, HN.out _ HB4.out⟩
            case measure => simp [intOf]; omega
        · as_aux_lemma =>
          have hrd := HST2.out.rd
          rw [if_neg he] at hrd
          obtain ⟨Ar, cr, hrd⟩ := hrd
          have hrq : ∀ q, Rd (wc.drewN q) r Ar cr [] ee := fun q => ⟨hrd.blk, At.none0 rfl, hrd.len, hrd.cap, hrd.byte⟩
          have HRD := Lib.hid hrq; clear hrd hrq
          have hen : (ee == 0) = false := by simp [he]
          have hen2 : (ee != 0) = true := by simp [he]
          go_wp2_with fail
          go_quiet (first
            | (go_at_call 26; exact Calls.quiet_of_same ((wire.err_any r Ar cr [] ee _ (HRD.out _)).mono fun _ _ h => ⟨h.1, h.2.symm⟩))
            | (go_at_call 25; exact Calls.quiet_of_same ((wire.left_any r Ar cr [] ee _ (HRD.out _)).mono fun _ _ h => ⟨h.1, h.2.symm⟩)))
          go_wp2
          go_roundw
          case rel => exact ⟨j + 1, Al, M, cl, ee, by omega, by go_num, rfl, rfl, HST2.out.drew _⟩
          case measure => simp [intOf]; omega
    · as_aux_lemma =>
      obtain rfl : j = m := by omega
      clear HBT HZ
      go_wp2_with fail
      refine (wire.rnum_nil wr).mono ?_
      rintro e w' ⟨rfl, rfl⟩
      go_wp2_with fail
      refine (wire.err_nil wr).mono ?_
      rintro e w' ⟨rfl, rfl⟩
      go_wp2_with fail
      refine (wire.left_nil wr).mono ?_
      rintro e w' ⟨rfl, rfl⟩
      go_wp2_with fail
      refine (wire.rbytes_nil 5 wr).mono ?_
      rintro e w' ⟨⟨A9, c9, rfl⟩, hb9⟩
      have HB9 := Lib.hid (HST.out.bel.trans (hb9.mono HST.out.bel.size)); clear hb9
      go_wp2_with fail
      refine (wire.awake_any w').mono ?_
      rintro e w2 ⟨rfl, hb2⟩
      have HB2 := Lib.hid (HB9.out.trans (hb2.mono HB9.out.size)); clear hb2
      go_wp2
      go_ret
      exact ⟨rfl, HB2.out⟩

set_option maxRecDepth 20000 in
theorem wire.lawReadsAll (A : Option Addr) (n c : Nat) (zb : List Int) (B : Option Addr) (m d : Nat) (z : List Int) (most : Int) (w : World) (hl : zb.length = n ∧ n ≤ c ∧ c ≤ maxLen) (hat : At w A n (fun j => .int .u8 (zb.getD j 0))) (hb : ∀ x ∈ zb, (Lit.int .u8 x).wf = true)
    (hl2 : z.length = m ∧ m ≤ d ∧ d ≤ maxLen) (hbt : At w B m (fun j => .int .i64 (z.getD j 0))) (hz : ∀ x ∈ z, (Lit.int .i64 x).wf = true) (hmost : -9223372036854775808 ≤ most ∧ most ≤ 9223372036854775807) :
    Calls Try.prog 3 #[.slice A n c, .slice B m d, .int .i64 most] w fun e w' => e = .returned (.bool true) ∧ Below w.heap.size w w' := by
  obtain ⟨hl, hnc, hcm⟩ := hl
  obtain ⟨hl2, hmd, hdm⟩ := hl2
  by_cases hsmall : n ≤ 300 ∧ m ≤ 60 ∧ 0 ≤ most ∧ most ≤ 1048576
  · obtain ⟨h1, h2, h3, h4⟩ := hsmall
    obtain ⟨hat', hb'⟩ := ints_bytes hat hl hb
    refine wire.lawReads A n c (zb.map Int.toNat) B m d z most w (by rw [List.length_map]; exact hl) hnc hcm hat' (fun x hx => ?_) hmd hdm hbt (fun j => ?_) hmost h1 h2 ⟨h3, h4⟩
    · obtain ⟨i, hi, rfl⟩ := List.getElem_of_mem hx
      have := hb' i (by rw [List.length_map] at hi; omega)
      simpa [List.getD, List.getElem?_eq_getElem hi] using this
    · rcases Nat.lt_or_ge j z.length with h | h
      · have := wf_bd (hz z[j] (List.getElem_mem _))
        simpa [List.getD, List.getElem?_eq_getElem h] using this
      · simp [List.getD, List.getElem?_eq_none h]
  · clear hat hb hbt hz
    unfold maxLen at hcm hdm
    rcases (show 300 < n ∨ (n ≤ 300 ∧ 60 < m) ∨ (n ≤ 300 ∧ m ≤ 60 ∧ most < 0) ∨ (n ≤ 300 ∧ m ≤ 60 ∧ 0 ≤ most ∧ 1048576 < most) by omega) with h | ⟨h, h'⟩ | ⟨h, h', h''⟩ | ⟨h, h', h'', h3⟩
    all_goals
      clear hsmall
      go_enter Try.func3, Try.ntmps3
      go_wp2_with fail
      refine (wire.awake_any w).mono ?_
      rintro e w2 ⟨rfl, hb2⟩
      have HB2 := Lib.hid hb2; clear hb2
      go_wp2
      go_ret
      exact ⟨rfl, HB2.out⟩
end Go.Proofs.Ytgkocnnkknodhaa

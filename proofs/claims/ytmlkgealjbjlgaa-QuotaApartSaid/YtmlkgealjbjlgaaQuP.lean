/- Contract of quota.pass: time goes by. -/
import Derived.Test.YtmlkgealjbjlgaaQuA
import Derived.Test.YtmlkgealjbjlgaaMapK
namespace Go.Proofs.Ytmlkgealjbjlgaa
open Go.RowKit Go.Maps

/-- What a client has, once ticks have gone by; whether it is known. -/
def qu.step (r B d : Int) (o : Option Int) : Option Int := o.bind fun c => if qu.gain r B c d = B then none else some (qu.gain r B c d)
def qu.after (r B d : Int) (g : ByteArray → Option Int) : ByteArray → Option Int := fun s => qu.step r B d (g s)
def qu.to (t now : Int) : Int := max t (min now 1125899906842624)
theorem qu.step_zero {r B : Int} {o : Option Int} (h : ∀ c, o = some c → 0 ≤ c ∧ c < B) : qu.step r B 0 o = o := by
  cases o with
  | none => rfl
  | some c =>
    have := h c rfl
    have e : qu.gain r B c 0 = c := by unfold qu.gain; rw [Int.zero_mul]; omega
    unfold qu.step
    rw [Option.bind_some, e, if_neg (by omega)]
theorem qu.after_zero {r B : Int} {g : ByteArray → Option Int} (h : ∀ s c, g s = some c → 0 ≤ c ∧ c < B) : qu.after r B 0 g = g := funext fun s => qu.step_zero (h s)
theorem QOk.after {r B m t : Int} {g : ByteArray → Option Int} (h : QOk r B m t g) (now : Int) : QOk r B m (qu.to t now) (qu.after r B (qu.to t now - t) g) := by
  have ht0 := h.t0
  have ht1 := h.t1
  have h1 : 0 ≤ qu.to t now - t := by unfold qu.to; omega
  refine { h with t0 := by unfold qu.to; omega, t1 := by unfold qu.to; omega, ok := fun s c hc => ?_ }
  unfold qu.after qu.step at hc
  cases hg : g s with
  | none => rw [hg] at hc; cases hc
  | some x =>
    rw [hg, Option.bind_some] at hc
    have hx := h.ok s x hg
    have := Int.mul_nonneg h1 h.r0
    split at hc
    · cases hc
    · cases hc
      rename_i hne
      unfold qu.gain at hne ⊢
      omega

/-- As the loop goes: of the first k clients what they have now, of the others what they had. -/
def qu.mid (r B d : Int) (g : ByteArray → Option Int) (ks : List ByteArray) (k : Nat) : ByteArray → Option Int := fun s => if (ks.take k).any (fun u => decide (u = s)) = true then qu.step r B d (g s) else g s
theorem any_is (l : List ByteArray) (s : ByteArray) : l.any (fun u => decide (u = s)) = true ↔ s ∈ l := by
  rw [List.any_eq_true]
  exact ⟨fun ⟨x, h1, h2⟩ => by rw [← of_decide_eq_true h2]; exact h1, fun h => ⟨s, h, decide_eq_true rfl⟩⟩
theorem qu.mid_zero (r B d : Int) (g : ByteArray → Option Int) (ks : List ByteArray) : qu.mid r B d g ks 0 = g := funext fun s => by simp [qu.mid]
theorem qu.mid_at (r B d : Int) (g : ByteArray → Option Int) (ks : List ByteArray) (k : Nat) (hnd : ks.Nodup) (hk : k < ks.length) : qu.mid r B d g ks k ks[k] = g ks[k] := by
  unfold qu.mid
  rw [if_neg]
  rw [any_is]
  intro h
  obtain ⟨i, hi, e⟩ := List.mem_take_iff_getElem.1 h
  exact List.pairwise_iff_getElem.1 hnd i k (by omega) hk (by omega) e
theorem qu.mid_succ (r B d : Int) (g : ByteArray → Option Int) (ks : List ByteArray) (k : Nat) (hk : k < ks.length) (c : Int) (hc : g ks[k] = some c) : qu.set B (qu.mid r B d g ks k) ks[k] (qu.gain r B c d) = qu.mid r B d g ks (k + 1) := by
  funext u
  unfold qu.set qu.mid
  rw [List.take_succ_eq_append_getElem hk]
  by_cases e : u = ks[k]
  · have h1 : (ks.take k ++ [ks[k]]).any (fun x => decide (x = u)) = true := by rw [any_is, e, List.mem_append, List.mem_singleton]; exact .inr rfl
    rw [if_pos e]
    show _ = if (ks.take k ++ [ks[k]]).any (fun x => decide (x = u)) = true then _ else _
    rw [if_pos h1, e, hc]
    rfl
  · rw [if_neg e]
    have h1 : ((ks.take k ++ [ks[k]]).any (fun x => decide (x = u)) = true) ↔ ((ks.take k).any (fun x => decide (x = u)) = true) := by
      rw [any_is, any_is, List.mem_append, List.mem_singleton]; exact ⟨fun h => h.elim id fun h => absurd h e, .inl⟩
    show (if (ks.take k).any (fun x => decide (x = u)) = true then _ else _) = if (ks.take k ++ [ks[k]]).any (fun x => decide (x = u)) = true then _ else _
    by_cases h2 : (ks.take k).any (fun x => decide (x = u)) = true
    · rw [if_pos h2, if_pos (h1.2 h2)]
    · rw [if_neg h2, if_neg (fun h => h2 (h1.1 h))]
theorem qu.mid_end (r B d : Int) (g : ByteArray → Option Int) (ks : List ByteArray) (h : IsKeys g ks) (s : ByteArray) (hs : s.size ≤ maxLen) : qu.after r B d g s = qu.mid r B d g ks ks.length s := by
  unfold qu.mid qu.after
  rw [List.take_length]
  by_cases e : s ∈ ks
  · rw [if_pos ((any_is ks s).2 e)]
  · rw [if_neg (fun h => e ((any_is ks s).1 h))]
    cases hg : g s with
    | none => rfl
    | some c => exact absurd ((h.2 s).2 ⟨hs, by rw [hg]; rfl⟩) e

def qu.PassPost (w : World) (p b : Nat) (r B m t now : Int) (N : Nat) (g : ByteArray → Option Int) (w' : World) : Prop :=
  ∃ N', QM w' p b r B m (qu.to t now) N' (qu.after r B (qu.to t now - t) g) ∧ N' ≤ N ∧ Chg w w' (quT p b)

set_option maxRecDepth 20000 in
set_option maxHeartbeats 1000000 in
theorem qu.pass_any (p b : Nat) (r B m t now : Int) (N : Nat) (g : ByteArray → Option Int) (w : World) (h : QM w p b r B m t N g) (ok : QOk r B m t g) (hN : N ≤ 1000) (hnow : -9223372036854775808 ≤ now ∧ now ≤ 9223372036854775807) :
    Calls Try.prog 43 #[.pointer (some ⟨p, 0, none⟩), .int .i64 now] w fun e w' => e = .returned (.tuple #[]) ∧ qu.PassPost w p b r B m t now N g w' := by
  have c3 := h.blk.cell 3 (v := .int .i64 t) rfl
  have f3 := h.blk.frozen 3
  have ht0 := ok.t0
  have ht1 := ok.t1
  by_cases hle : min now 1125899906842624 ≤ t
  · have e : qu.to t now = t := by unfold qu.to; omega
    have hpost : qu.PassPost w p b r B m t now N g w := by
      unfold qu.PassPost
      rw [e, Int.sub_self, qu.after_zero ok.ok]
      exact ⟨N, h, Nat.le_refl _, Chg.refl _ _⟩
    have HP := Lib.hid hpost; clear hpost h ok e
    go_enter Try.func43, Try.ntmps43
    go_wp2_with fail
    (try simp only [Exit.inBlock, Exit.then])
    refine bodyPost_ret (results_none rfl _ _ _) rfl ?_
    exact ⟨rfl, HP.out⟩
  · have hto : qu.to t now = min now 1125899906842624 := by unfold qu.to; omega
    have hd0 : 0 ≤ min now 1125899906842624 - t := by omega
    have hd1 : min now 1125899906842624 - t ≤ 1125899906842624 := by omega
    have hgoal : ∀ w', (∃ N', QM w' p b r B m (min now 1125899906842624) N' (qu.after r B (min now 1125899906842624 - t) g) ∧ N' ≤ N ∧ Chg w w' (quT p b)) → qu.PassPost w p b r B m t now N g w' := fun w' h => by
      unfold qu.PassPost
      rw [hto]
      exact h
    have HGOAL := Lib.hid hgoal; clear hgoal hto
    have hq := h.blk.set 3 (.int .i64 (min now 1125899906842624))
    have hch := Chg.setCell w p 3 (.int .i64 (min now 1125899906842624))
    have hm := h.map.chg hch (fun e => h.ne e.symm)
    have hpb := h.ne
    have hplt := h.blk.lt
    have hblt := h.map.lt
    have HM := Lib.hid h.map
    have HQ := Lib.hid (show QM (w.setCell ⟨p, 3, none⟩ (.int .i64 (min now 1125899906842624))) p b r B m (min now 1125899906842624) N g from ⟨hq, hm⟩)
    have hc4 := hq.cell 4 (v := .map (some b)) rfl
    have HC := Lib.hid hch; clear hch
    have OK := Lib.hid ok; clear ok
    clear h hq hm
    go_enter Try.func43, Try.ntmps43
    go_wp2_with fail
    generalize min now 1125899906842624 = to at *
    generalize w.setCell ⟨p, 3, none⟩ (.int .i64 to) = w1 at *
    refine (maps_keys (some b) w1).mono ?_
    rintro e w2 ⟨rfl, rfl⟩
    go_wp2_with fail
    refine (keys_collect b N g w1 HQ.out.map (by omega)).mono ?_
    rintro e w3 ⟨v, ks, rfl, hks, hlen, hown, hb3⟩
    obtain ⟨A, c, rfl, hAc, hat⟩ := own_at hown
    rw [Nat.mul_one] at hat
    have hnb : ∀ b' off, A = some ⟨b', off, none⟩ → ¬ quT p b b' ∧ w.heap.size ≤ b' := fun b' off hA => by
      have h1 := (hown.lt b' (by rw [hA]; rfl)).1
      have h2 := HC.out.size
      rw [World.size_alloc] at h1
      unfold quT
      omega
    have HNB := Lib.hid hnb; clear hnb
    have hch3 : Chg w1 w3 (quT p b) := (Chg.alloc w1 _ _).trans (chg_of hb3) fun _ _ h => h
    have HC3 := Lib.hid ((HC.out.mono (Q := quT p b) fun _ _ h => Or.inl h).trans hch3 fun _ _ h => h)
    have hb13 : Below w1.heap.size w1 w3 := ((Below.refl _ w1).alloc (Nat.le_refl _) _).trans (hb3.mono (by simp))
    have HQ3 := Lib.hid (HQ.out.keep hb13)
    clear hown hb3 hb13 hch3 HQ hc4
    have HAT := Lib.hid hat; clear hat
    have HKS := Lib.hid hks; clear hks
    obtain rfl := hlen
    go_wp2_with fail
    go_loopw [33] (fun i wr => ∃ k Nk : Nat, k ≤ ks.length ∧ i = .int .i64 (k : Int) ∧ QM wr p b r B m to Nk (qu.mid r B (to - t) g ks k) ∧ Nk ≤ ks.length ∧ Chg w3 wr (quT p b)) (fun i _ => ks.length - (intOf i).toNat)
    case atStart => exact ⟨0, ks.length, by omega, rfl, by rw [qu.mid_zero]; exact HQ3.out, Nat.le_refl _, Chg.refl _ _⟩
    case round =>
      obtain ⟨k, Nk, hk, rfl, hq, hNk, hch⟩ := hrel
      have HCH := Lib.hid hch; clear hch
      have hat := (HCH.out.at' HAT.out fun _ b' off hA => (HNB.out b' off hA).1)
      by_cases hlt : k < ks.length
      · obtain ⟨b', off, rfl, hb', hcells⟩ := hat (by omega)
        have hck := hcells k hlt
        have hkey : (ks.map Value.string).getD k undef = .string ks[k] := by simp [List.getD, hlt]
        dsimp only at hck
        rw [hkey] at hck
        obtain ⟨hsz, hsome⟩ := (HKS.out.2 ks[k]).1 (List.getElem_mem hlt)
        obtain ⟨cc, hcc⟩ := Option.isSome_iff_exists.1 hsome
        have hmid := qu.mid_at r B (to - t) g ks k HKS.out.1 hlt
        have hset := qu.mid_succ r B (to - t) g ks k hlt cc hcc
        have hcb := OK.out.ok _ _ hcc
        have hlook := hq.map.look1 ks[k] hsz
        rw [hmid, hcc] at hlook
        have hc4 := hq.blk.cell 4 (v := .map (some b)) rfl
        have HQ := Lib.hid hq; clear hq
        have HSET := Lib.hid hset; clear hset
        have HMID := Lib.hid hmid; clear hmid
        have HCC := Lib.hid hcc; clear hcc hsome hkey hcells
        generalize hs : ks[k] = s at *
        have HS := Lib.hid hs; clear hs
        have hok := OK.out
        have hok1 := hok.r0
        have hok2 := hok.r1
        have hok3 := hok.b0
        have hok4 := hok.b1
        clear hok
        go_wp2_with fail
        refine (qu.gained_any p b r B m to Nk _ cc (to - t) wr HQ.out ⟨hok1, hok2⟩ ⟨hok3, hok4⟩ (by omega) ⟨hd0, hd1⟩).mono ?_
        rintro e w' ⟨rfl, q, rfl⟩
        have hg : 0 ≤ qu.gain r B cc (to - t) ∧ qu.gain r B cc (to - t) ≤ 1099511627776 := by
          have := Int.mul_nonneg hd0 hok1
          unfold qu.gain; omega
        generalize qu.gain r B cc (to - t) = v at *
        go_wp2_with fail
        refine (qu.keep_any p b r B m to Nk _ s v (wr.drewN q) (HQ.out.drew q) hsz hg (by omega)).mono ?_
        rintro e w4 ⟨rfl, hq4, hch4, -⟩
        rw [HSET.out] at hq4
        have hcnt : qu.cnt B Nk (qu.mid r B (to - t) g ks k) s v ≤ Nk := by
          unfold qu.cnt
          rw [HMID.out, HCC.out]
          simp only [Option.isSome_some, if_true]
          split <;> omega
        generalize qu.cnt B Nk (qu.mid r B (to - t) g ks k) s v = N4 at *
        have HQ4 := Lib.hid hq4; clear hq4
        have HCH4 := Lib.hid (HCH.out.trans (show Chg wr w4 (quT p b) from ((Chg.refl wr (quT p b)).drewN q).trans hch4 fun _ _ h => h) fun _ _ h => h); clear hch4
        clear hlook hc4 hck hat
        go_wp2_with fail
        go_roundw
        case rel => exact ⟨k + 1, N4, by omega, by go_num, HQ4.out, by omega, HCH4.out⟩
        case measure => simp [intOf]; omega
      · obtain rfl : k = ks.length := by omega
        have hend := qu.mid_end r B (to - t) g ks HKS.out
        have hfin := HGOAL.out wr ⟨Nk, ⟨hq.blk, hq.map.congr hend⟩, hNk, HC3.out.trans HCH.out fun _ _ h => h⟩
        have HFIN := Lib.hid hfin; clear hfin hend hq hat
        go_wp2_with fail
        go_end0
        exact ⟨rfl, HFIN.out⟩
end Go.Proofs.Ytmlkgealjbjlgaa

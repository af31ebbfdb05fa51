/- commits: applyGen (chapter 18). -/
import Derived.BigQuiet
import Derived.Test.YtkkpbnhagobhmaaCmJ
namespace Go.Proofs.Ytkkpbnhagobhmaa
open Go.RowKit Go.Maps
set_option maxRecDepth 100000
/-- What a record asks of a table. -/
inductive CAct where
  | put (e : CEnt)
  | del (e : CEnt)
  | up (g : ByteArray) (n : Int)
  | down (g : ByteArray)
open Classical in
noncomputable def CEnt.plk (e : CEnt) : Option PlK := if h : e.grp.size ≤ maxLen ∧ e.top.size ≤ maxLen ∧ intOk e.part then some ⟨e.grp, e.top, e.part, h.1, h.2.1, h.2.2⟩ else none
noncomputable def CTab.does (T : CTab) : CAct → CTab
  | .put e => match e.plk with | some x => T.put x e.off | none => T
  | .del e => match e.plk with | some x => T.del x | none => T
  | .up g n => T.raise g n
  | .down g => T.sink g
noncomputable def CTab.app (T : CTab) : Option CAct → CTab
  | none => T
  | some a => T.does a
def cm.code : Option CAct → Int
  | none => 2
  | some _ => 0
theorem CEnt.plk_of {e : CEnt} {x : PlK} (h1 : x.g = e.grp) (h2 : x.t = e.top) (h3 : x.p = e.part) : e.plk = some x := by
  unfold CEnt.plk
  have h : e.grp.size ≤ maxLen ∧ e.top.size ≤ maxLen ∧ intOk e.part := ⟨h1 ▸ x.hg, h2 ▸ x.ht, h3 ▸ x.hp⟩
  rw [dif_pos h]
  exact congrArg some (PlK.eq h1.symm h2.symm h3.symm)
def cm.keyG (L : List Nat) (e : Int) : Option ByteArray := if (cm.end_ (rd.piece L e 20).2.2 (rd.piece L e 20).2.1 && cm.topic (strOf (rd.piece L e 20).1)) = true then some (strOf (rd.piece L e 20).1) else none
def cm.valG (g : ByteArray) (x : Rec) : Option CAct := if x.hasVal = true then (if (cm.numOk x.val && cm.gen g (rd.num x.val 0).1) = true then some (.up g (rd.num x.val 0).1) else none) else some (.down g)
def cm.actG (L : List Nat) (e : Int) (x : Rec) : Option CAct := match cm.keyG L e with | none => none | some g => cm.valG g x
def cm.appPost (w : World) (p mo mf r : Nat) (T : CTab) (n : Nat) (c : Int) (en : Ending) (w' : World) : Prop := en = .returned (.int .i64 c) ∧ TabAt w' p mo mf T n ∧ Chg w w' (fun k => k = r ∨ k = mo ∨ k = mf)
theorem BytesV.past {w w' : World} {u : Value} {V L : List Nat} {r : Nat} {e : Int} (h : BytesV w u V) (hr : RdIs w r L e) (hc : Chg w w' (rdT r)) : BytesV w' u V := by
  obtain ⟨A, c, h1, h2, h3⟩ := h
  obtain ⟨B, d, hr⟩ := hr
  exact ⟨A, c, h1, hc.at' h2 fun hm b off hb hh => hr.apart h2 hm b off hb hh, h3⟩
theorem RdIs.text {w : World} {r : Nat} {L : List Nat} {e : Int} (h : RdIs w r L e) (most : Int) : Calls Try.prog 37 #[.pointer (some ⟨r, 0, none⟩), .int .i64 most] w (TextPost w r (rd.piece L e most).1 (rd.piece L e most).2.1 (rd.piece L e most).2.2) := h.elim fun A h => h.elim fun c h => wire.rtext_any r A c L e most w h
theorem RdIs.num {w : World} {r : Nat} {L : List Nat} {e : Int} (h : RdIs w r L e) : Calls Try.prog 56 #[.pointer (some ⟨r, 0, none⟩)] w (RdPost w r (.int .i64 (rd.num L e).1) (rd.num L e).2.1 (rd.num L e).2.2) := h.elim fun A h => h.elim fun c h => wire.rnum_any r A c L e w h
theorem RdIs.len {w : World} {r : Nat} {L : List Nat} {e : Int} (h : RdIs w r L e) : L.length ≤ maxLen := h.elim fun _ h => h.elim fun _ h => Nat.le_trans h.len h.cap
theorem TabAt.del {w' : World} {p mo mf : Nat} {T : CTab} {n N' Nf : Nat} {x : PlK} (hb : Blk w' p 70 #[.map (some mo), .map (some mf)]) (h1 : GM placeKey w' mo N' (gdel T.goff x)) (h2 : GM strKey w' mf Nf T.gflo) (h3 : N' ≤ n) (h4 : Nf ≤ n) (h5 : mo ≠ mf) (h6 : ∀ s, 0 ≤ T.flo s) : TabAt w' p mo mf (T.del x) n :=
  ⟨N', Nf, hb, by rw [CTab.goff_del]; exact h1, h2, h3, h4, h5, h6⟩
theorem TabAt.sink {w' : World} {p mo mf : Nat} {T : CTab} {n No N' : Nat} {g : ByteArray} (hb : Blk w' p 70 #[.map (some mo), .map (some mf)]) (h1 : GM placeKey w' mo No T.goff) (h2 : GM strKey w' mf N' (gdel T.gflo g)) (h3 : No ≤ n) (h4 : N' ≤ n) (h5 : mo ≠ mf) (h6 : ∀ s, 0 ≤ T.flo s) : TabAt w' p mo mf (T.sink g) n := by
  refine ⟨No, N', hb, h1, by rw [CTab.gflo_sink]; exact h2, h3, h4, h5, fun s => ?_⟩
  show 0 ≤ if s = g then 0 else T.flo s
  split
  · exact Int.le_refl _
  · exact h6 s
set_option maxHeartbeats 4000000 in
theorem cm.applyG_any (r : Nat) (L : List Nat) (e : Int) (X : Rec) (k u : Value) (p mo mf : Nat) (T : CTab) (n : Nat) (w : World) (hr : RdIs w r L e) (hu : BytesV w u X.val) (h : TabAt w p mo mf T n) (hn : n < maxLen) (hne : r ≠ p ∧ r ≠ mo ∧ r ≠ mf) :
    Calls Try.prog 39 #[.pointer (some ⟨p, 0, none⟩), .pointer (some ⟨r, 0, none⟩), .agg #[.int .i64 X.off, .int .i64 X.time, .bool X.hasKey, k, .bool X.hasVal, u]] w (cm.appPost w p mo mf r (T.app (cm.actG L e X)) (n + 1) (cm.code (cm.actG L e X))) := by
  have hsz : (strOf (rd.piece L e 20).1).size ≤ maxLen := by rw [strOf_size]; exact Nat.le_trans (rd.piece_le L e 20) hr.len
  have hl := h.lt
  obtain ⟨b0, hb0⟩ : ∃ b, b = w.heap.size := ⟨_, rfl⟩
  obtain ⟨w1, hw1⟩ : ∃ w1, w1 = w.alloc (.cells #[.int .i64 X.off, .int .i64 X.time, .bool X.hasKey, k, .bool X.hasVal, u] 37) := ⟨_, rfl⟩
  have hk1 : Blk w1 b0 37 #[.int .i64 X.off, .int .i64 X.time, .bool X.hasKey, k, .bool X.hasVal, u] := by rw [hw1, hb0]; exact Blk.new _ _ _
  have hb1 : Below w.heap.size w w1 := by rw [hw1]; exact (Below.refl _ _).alloc (Nat.le_refl _) _
  have hrl : r < w.heap.size := hr.elim fun A q => q.elim fun c q => q.blk.lt
  have hr1 := hr.keep hb1
  have ht1 := h.below hb1
  have hu1 := hu.below hb1 (Nat.le_refl _)
  have htx := hr1.text 20
  obtain ⟨act, hact⟩ : ∃ a, a = cm.actG L e X := ⟨_, rfl⟩
  rw [← hact]
  unfold cm.actG cm.keyG at hact
  obtain ⟨⟨P, L1, e1⟩, hq⟩ : ∃ q, q = rd.piece L e 20 := ⟨_, rfl⟩
  rw [← hq] at hact htx hsz
  simp only at hact htx hsz
  clear hq
  obtain ⟨s, hs⟩ : ∃ s, s = strOf P := ⟨_, rfl⟩
  unfold TextPost at htx
  rw [← hs] at hact htx hsz
  clear hs
  obtain ⟨E, hE⟩ : ∃ E, E = cm.end_ e1 L1 := ⟨_, rfl⟩
  have hend := fun wx hx => cm.ended_any r L1 e1 wx hx
  rw [← hE] at hact hend
  clear hE
  obtain ⟨t, ht⟩ : ∃ t, t = cm.topic s := ⟨_, rfl⟩
  have htp := fun wx => cm.topic_any s wx hsz
  rw [← ht] at hact htp
  clear ht
  have hbr : b0 ≠ r := by omega
  have hbm : b0 ≠ mo ∧ b0 ≠ mf ∧ b0 ≠ p := by omega
  have H := Lib.hid (And.intro htx (And.intro hend (And.intro htp (And.intro hk1 (And.intro hb1 (And.intro hr1 (And.intro ht1 (And.intro hu1 (And.intro hb0 (And.intro hn (And.intro hl (And.intro hsz (And.intro hbr hbm)))))))))))))
  clear htx hend htp hk1 hb1 hr1 ht1 hu1 hn hl hsz hr hu h hrl hbr hbm
  have HACT := Lib.hid hact; clear hact
  have HNE := Lib.hid hne; clear hne
  go_enter Try.func39, Try.ntmps39
  go_upto_region 1 with fail
  rw [← hw1, ← hb0]
  clear hw1 hb0
  go_wp2_with fail
  refine H.out.1.mono ?_
  rintro en w2 ⟨rfl, hr2, hc2⟩
  have ht2 := H.out.2.2.2.2.2.2.1.keep hc2 (fun q => HNE.out.1 (by exact q.symm)) (fun q => HNE.out.2.1 (by exact q.symm)) fun q => HNE.out.2.2 (by exact q.symm)
  have hu2 := H.out.2.2.2.2.2.2.2.1.past H.out.2.2.2.2.2.1 hc2
  have hk2 := hc2.blk H.out.2.2.2.1 H.out.2.2.2.2.2.2.2.2.2.2.2.2.1
  have hc2' : Chg w w2 (fun k => k = r ∨ k = mo ∨ k = mf) := (chg_of (P := fun k => k = r ∨ k = mo ∨ k = mf) H.out.2.2.2.2.1).trans hc2 fun k _ q => .inl q
  have H2 := Lib.hid (And.intro (H.out.2.1 w2 hr2) (And.intro ht2 (And.intro hu2 (And.intro hk2 hc2')))); clear hr2 hc2 ht2 hu2 hk2 hc2'
  go_wp2_with fail
  refine H2.out.1.mono ?_
  rintro en w3 ⟨rfl, h3⟩
  subst h3
  have hbad : act = none → ∀ c, c = 2 → cm.appPost w p mo mf r (T.app act) (n + 1) (cm.code act) (.returned (.int .i64 c)) w2 := fun h c hc => by
    rw [h, hc]
    exact ⟨rfl, H2.out.2.1.up (Nat.le_succ _), H2.out.2.2.2.2⟩
  have HBAD := Lib.hid hbad; clear hbad
  cases E with
  | false =>
    have HA := Lib.hid (HBAD.out (by rw [HACT.out]; rfl) 2 rfl)
    go_wp2_with fail
    go_ret
    exact HA.out
  | true =>
    go_wp2_with fail
    refine (H.out.2.2.1 _).mono ?_
    rintro en w3 ⟨rfl, h3⟩
    subst h3
    cases t with
    | false =>
      have HA := Lib.hid (HBAD.out (by rw [HACT.out]; rfl) 2 rfl)
      go_wp2_with fail
      go_ret
      exact HA.out
    | true =>
      have hact : act = cm.valG s X := HACT.out
      unfold cm.valG at hact
      have c4 := H2.out.2.2.2.1.cell 4 (v := .bool X.hasVal) rfl
      have c5 := H2.out.2.2.2.1.cell 5 (v := u) rfl
      have cl := H2.out.2.2.2.1.lt
      obtain ⟨hv, hhv⟩ : ∃ b, b = X.hasVal := ⟨_, rfl⟩
      rw [← hhv] at hact c4
      clear hhv
      obtain ⟨No, Nf, a1, a2, a3, a4, a5, a6, a7⟩ := H2.out.2.1
      have m1 := a1.cell 1 rfl
      have A := Lib.hid (And.intro a1 (And.intro a2 (And.intro a3 (And.intro a4 (And.intro a5 (And.intro a6 a7)))))); clear a1 a2 a3 a4 a5 a6 a7
      cases hv with
      | false =>
        rw [if_neg (by simp)] at hact
        have HA := Lib.hid hact; clear hact
        obtain ⟨w4, hdel, hgm4, hc4, hs4⟩ := A.out.2.2.1.drop Try.underlying68 s H.out.2.2.2.2.2.2.2.2.2.2.2.1 0
        replace hdel : (Builtin.delete_ #[68, 9] 0 #[.map (some mf), .string s]).run Try.prog w2 = .ok (.tuple #[]) w4 := hdel
        have H4 := Lib.hid (And.intro hgm4 hc4); clear hgm4 hc4 hs4
        go_wp2_with fail
        go_ret
        rw [HA.out]
        refine ⟨rfl, TabAt.sink (H4.out.2.blk A.out.1 (A.out.2.2.1.not_blk A.out.1)) (A.out.2.1.chg H4.out.2 A.out.2.2.2.2.2.1) H4.out.1 ?_ ?_ A.out.2.2.2.2.2.1 A.out.2.2.2.2.2.2, H2.out.2.2.2.2.trans H4.out.2 fun _ _ q => .inr (.inr q)⟩
        · have := A.out.2.2.2.1; omega
        · have := A.out.2.2.2.2.1; split <;> omega
      | true =>
        rw [if_pos rfl] at hact
        have hnum := cm.number_any u X.val w2 H2.out.2.2.1
        obtain ⟨b, hb⟩ : ∃ b, b = cm.numOk X.val := ⟨_, rfl⟩
        rw [← hb] at hact hnum
        clear hb
        obtain ⟨q, hq⟩ : ∃ q, q = (rd.num X.val 0).1 := ⟨_, rfl⟩
        rw [← hq] at hact hnum
        clear hq
        have HA := Lib.hid (And.intro hact hnum); clear hact hnum m1
        go_wp2_with fail
        refine HA.out.2.mono ?_
        rintro en w3 ⟨rfl, h3⟩
        have ht3 := H2.out.2.1.below h3
        have hc3 : Chg w w3 (fun k => k = r ∨ k = mo ∨ k = mf) := H2.out.2.2.2.2.trans (chg_of (P := fun _ => False) h3) fun _ _ q => q.elim
        have H3 := Lib.hid (And.intro ht3 hc3); clear ht3 hc3 h3 c4 c5 cl
        cases b with
        | false =>
          have HX : act = none := by rw [HA.out.1]; rfl
          have HY := Lib.hid HX; clear HX
          go_wp2_with fail
          go_ret
          rw [HY.out]
          exact ⟨rfl, H3.out.1.up (Nat.le_succ _), H3.out.2⟩
        | true =>
          obtain ⟨G, hG⟩ : ∃ G, G = cm.gen s q := ⟨_, rfl⟩
          have hact := HA.out.1
          rw [← hG, Bool.true_and] at hact
          cases G with
          | false =>
            rw [if_neg (by simp)] at hact
            have HY := Lib.hid (And.intro hact (cm.tgen_bad s q p w3 H.out.2.2.2.2.2.2.2.2.2.2.2.1 hG.symm)); clear hact hG
            go_wp2_with fail
            refine HY.out.2.mono ?_
            rintro en w4 ⟨rfl, h4⟩
            subst h4
            go_wp2_with fail
            go_ret
            rw [HY.out.1]
            exact ⟨rfl, H3.out.1.up (Nat.le_succ _), H3.out.2⟩
          | true =>
            rw [if_pos rfl] at hact
            have HY := Lib.hid (And.intro hact (cm.tgen_ok s q p mo mf T n w3 H3.out.1 hG.symm H.out.2.2.2.2.2.2.2.2.2.1)); clear hact hG
            go_wp2_with fail
            refine HY.out.2.mono ?_
            rintro en w4 ⟨rfl, ht4, hc4⟩
            have H4 := Lib.hid (And.intro ht4 hc4); clear ht4 hc4
            go_wp2_with fail
            go_ret
            rw [HY.out.1]
            exact ⟨rfl, H4.out.1, H3.out.2.trans H4.out.2 fun _ _ q => .inr q⟩
end Go.Proofs.Ytkkpbnhagobhmaa

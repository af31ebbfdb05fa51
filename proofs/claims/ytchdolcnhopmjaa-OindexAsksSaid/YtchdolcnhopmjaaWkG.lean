/- The reference of chapter 5: All, Size, Good. -/
import Derived.Test.YtchdolcnhopmjaaWkD
import Derived.Test.YtchdolcnhopmjaaRrE
namespace Go.Proofs.Ytchdolcnhopmjaa
open Go.RowKit

theorem wa.info : (Try.prog.info? 52).map (fun i => (i.zero, i.size, i.bytes)) = some (some (.agg #[.int .i64 0, .int .i64 0, .int .i64 0, .int .i64 0, .int .i64 0, .int .i64 0, .slice none 0 0]), 7, 72) := by kernel_rfl
def wa.cell7 (x : WkX) : List Value := .int .i64 (x.1.1 : Int) :: wk.cell6 x
def wa.row (pre : List WkX) : List Value := (pre.map wa.cell7).flatten
theorem wa.row_snoc (pre : List WkX) (x : WkX) : wa.row (pre ++ [x]) = wa.row pre ++ wa.cell7 x := by unfold wa.row; simp
theorem wa.row_get (pre : List WkX) (i k : Nat) (x : WkX) (h : pre[i]? = some x) (hk : k < 7) : (wa.row pre).getD (i * 7 + k) undef = (wa.cell7 x).getD k undef := flat_get wa.cell7 7 (fun _ => rfl) pre i k x h hk
/-- Rows of places and batches. -/
def AtsAt (w : World) (A : Option Addr) (l : List (Nat × Bat)) : Prop := ∃ V, At w A (l.length * 7) V ∧ ∀ (i : Nat) (x : Nat × Bat), l[i]? = some x → ∃ cs, cellsAt V i 7 = .int .i64 (x.1 : Int) :: cs ∧ BatR w cs x.2
/-- What All keeps: the row of what was read, and what its batches lean on. -/
def wa.I (B : Nat) (L : List Nat) (v : Value) (pre : List WkX) (W : World) : Prop :=
  W.ownsRow B 52 7 v pre.length (wa.row pre) ∧ ∀ x ∈ pre, Dep (fun k => v.ownBlock ≠ some k) W (fun U => RecsV U (.slice x.2.1 x.1.2.recs.length x.2.2) x.1.2.recs) ∧ ∃ u, dec.Is L x.1.1 x.1.2 u
theorem wa.I_below {B : Nat} {L : List Nat} {v : Value} {pre : List WkX} {W W' : World} (h : wa.I B L v pre W) (hb : Below W.heap.size W W') : wa.I B L v pre W' := ⟨own_below h.1 hb, fun x hx => ⟨(h.2 x hx).1.below hb, (h.2 x hx).2⟩⟩
theorem wa.I_out {B : Nat} {L : List Nat} {v : Value} {pre : List WkX} {W : World} (h : wa.I B L v pre W) : ∃ A c, v = .slice A pre.length c ∧ pre.length ≤ c ∧ AtsAt W A (pre.map Prod.fst) := by
  obtain ⟨h1, h2⟩ := h
  obtain ⟨A, c, rfl, hc, hat⟩ := own_at h1
  refine ⟨A, c, rfl, hc, _, by rw [List.length_map]; exact hat, fun i x hi => ?_⟩
  rw [List.getElem?_map] at hi
  cases hx : pre[i]? with
  | none => rw [hx] at hi; cases hi
  | some y =>
    rw [hx] at hi
    obtain rfl : y.1 = x := by simpa using hi
    have hmem : y ∈ pre := List.mem_of_getElem? hx
    obtain ⟨hd, u, his⟩ := h2 y hmem
    obtain ⟨m0, m1, m2, m3, m4, m5, m6, m7, m8, m9, -⟩ := (Bat.check_ok his.check).1
    refine ⟨wk.cell6 y, ?_, .slice y.2.1 y.1.2.recs.length y.2.2, rfl, hd.now, by unfold i64ok; omega, by unfold i64ok; omega, by unfold i64ok; omega, by unfold i64ok; omega, by unfold i64ok; omega⟩
    have hg := fun k hk => wa.row_get pre i k y hx hk
    unfold cellsAt
    show [(wa.row pre).getD (i * 7 + 0) undef, (wa.row pre).getD (i * 7 + 1) undef, (wa.row pre).getD (i * 7 + 2) undef, (wa.row pre).getD (i * 7 + 3) undef, (wa.row pre).getD (i * 7 + 4) undef, (wa.row pre).getD (i * 7 + 5) undef, (wa.row pre).getD (i * 7 + 6) undef] = _
    rw [hg 0 (by omega), hg 1 (by omega), hg 2 (by omega), hg 3 (by omega), hg 4 (by omega), hg 5 (by omega), hg 6 (by omega)]
    rfl
/-- One batch more. -/
theorem wa.I_app {B : Nat} {L : List Nat} {v v' : Value} {pre : List WkX} {W W' : World} {x : WkX} (h : wa.I B L v pre W) (hx : Dep (fun k => v.ownBlock ≠ some k) W (fun U => RecsV U (.slice x.2.1 x.1.2.recs.length x.2.2) x.1.2.recs)) (hi : ∃ u, dec.Is L x.1.1 x.1.2 u)
    (hown : W'.ownsRow B 52 7 v' (pre.length + 1) (wa.row pre ++ wa.cell7 x)) (hg : W.grownBy W' v.ownBlock) (hl : Lies W v v') : wa.I B L v' (pre ++ [x]) W' := by
  refine ⟨by rw [wa.row_snoc, List.length_append]; exact hown, fun y hy => ?_⟩
  have hmv : ∀ {P : World → Prop}, Dep (fun k => v.ownBlock ≠ some k) W P → Dep (fun k => v'.ownBlock ≠ some k) W' P := fun hd => hd.move (fun k o hz ho _ => ⟨(hg.block k (heap_in ho) fun e => hz e.symm).trans ho, fun e => by
    rcases hl with h | h
    · exact hz (by rw [← h]; exact e)
    · rw [h] at e
      have e : W.heap.size = k := by simpa using e
      have := heap_in ho
      omega⟩) hg.size
  rcases List.mem_append.1 hy with hy | hy
  · exact ⟨hmv (h.2 y hy).1, (h.2 y hy).2⟩
  · obtain rfl : y = x := by simpa using hy
    exact ⟨hmv hx, hi⟩

/-- What All answers. -/
def wa.Post (L : List Nat) (w : World) (e : Ending) (w' : World) : Prop := ∃ A c, e = .returned (.slice A (dec.walk L).length c) ∧ (dec.walk L).length ≤ c ∧ AtsAt w' A (dec.walk L) ∧ Below w.heap.size w w'
theorem wa.post {B : Nat} {L : List Nat} {v : Value} {pre : List WkX} {w W : World} (h : wa.I B L v pre W) (hp : pre.map Prod.fst = dec.walk L) (hb : Below w.heap.size w W) : wa.Post L w (.returned v) W := by
  obtain ⟨A, c, rfl, hc, hat⟩ := wa.I_out h
  rw [hp] at hat
  have hl : (dec.walk L).length = pre.length := by rw [← hp, List.length_map]
  exact ⟨A, c, by rw [hl], by omega, hat, hb⟩

set_option maxRecDepth 20000 in
set_option maxHeartbeats 4000000 in
theorem ref.all_any (A : Option Addr) (c m : Nat) (L : List Nat) (w : World) (hln : L.length = m) (hat : At w A m (byteAt L)) (hb : ∀ x ∈ L, x < 256) (hmc : m ≤ c) (hc : c ≤ maxLen) (hm : m ≤ 1000000) :
    Calls Try.prog 22 #[.slice A m c] w (wa.Post L w) := by
  obtain ⟨i0, hi, hz0, hz1, hz2⟩ := info_parts wa.info
  have HI := Lib.hid (And.intro hi (And.intro hz0 (And.intro hz1 hz2))); clear hi hz0 hz1 hz2
  have HAT := Lib.hid hat; clear hat
  have HL := Lib.hid hb; clear hb
  have HLEN := Lib.hid hln; clear hln
  unfold maxLen at hc
  go_enter Try.func22, Try.ntmps22
  go_wp2_with fail
  go_loopg [3, 4] m (fun g s3 s4 wr => ∃ (pre : List WkX) (at' : Nat) (ahead : Int), s4 = .int .i64 (at' : Int) ∧ at' ≤ m ∧ L.length ≤ at' + g ∧ pre.map Prod.fst ++ dec.walkF g L at' ahead = dec.walk L ∧ wa.I w.heap.size L s3 pre wr ∧ Below w.heap.size w wr ∧
    ((pre = [] ∧ ahead = -1) ∨ ∃ pre0 x, pre = pre0 ++ [x] ∧ ahead = x.1.2.last))
  case atStart => exact ⟨[], 0, -1, rfl, by omega, by rw [HLEN.out]; omega, by unfold dec.walk; rw [HLEN.out]; rfl, ⟨World.ownsRow_nil _ _ _ _, (fun x hx => by cases hx)⟩, Below.refl _ _, .inl ⟨rfl, rfl⟩⟩
  case round =>
    obtain ⟨pre, at', ahead, rfl, hatm, hfuel, hwalk, hI, hbw, hah⟩ := hrel
    obtain ⟨Av, cv, hv, hcv, -⟩ := wa.I_out hI
    subst hv
    have HFUEL := Lib.hid hfuel; clear hfuel
    have HWALK := Lib.hid hwalk; clear hwalk
    have HII := Lib.hid hI; clear hI
    have HBW := Lib.hid hbw; clear hbw
    have hdl : (L.drop at').length = m - at' := by rw [List.length_drop, HLEN.out]
    have hbd : ∀ x ∈ L.drop at', x < 256 := fun x hx => HL.out x (List.mem_of_mem_drop hx)
    have HBD := Lib.hid hbd; clear hbd
    have hpl : pre.length ≤ 1000000 := by
      have h1 := congrArg List.length HWALK.out
      have h2 := dec.walk_len HL.out
      rw [List.length_append, List.length_map] at h1
      rw [HLEN.out] at h2
      omega
    go_wp2_with (show Go.wpList _ _ _ (⟨_, .slice _ (.tmp 8) _ _ _, _, _, _, _⟩ :: _) _ _; go_loud (refine wpList_slicep rfl (.tmp 8) _ _ rfl A m c at' m rfl (.inr rfl) (.inl ⟨rfl, rfl⟩) hatm (Nat.le_refl _) hmc ?_; intro A9 c9 hp hc91 hc92; have HP9 := Lib.hid hp; clear hp))
    have hfst := ref.first_any A9 c9 (m - at') (L.drop at') wr hdl (by
      have h := HP9.out L HLEN.out wr (by rw [HLEN.out]; exact HAT.out.below HBW.out (Nat.le_refl _))
      rw [List.take_of_length_le (by rw [hdl]; exact Nat.le_refl _), hdl] at h
      exact h) HBD.out hc91 (by unfold maxLen; omega) (by omega)
    clear hdl HP9
    refine hfst.mono ?_
    rintro e w5 ⟨hres, hb5⟩
    clear hfst
    have hI5 := wa.I_below HII.out hb5
    have hbw5 : Below w.heap.size w w5 := HBW.out.trans (hb5.mono HBW.out.size)
    rcases hres with ⟨hnone, rfl⟩ | ⟨b, u, A', c', hyes, hu50, hul, hrow, rfl⟩
    · have hend : pre.map Prod.fst = dec.walk L := by
        have h := HWALK.out
        rw [dec.walk_none hnone, List.append_nil] at h
        exact h
      have hpost : ∀ V, Below w5.heap.size w5 V → wa.Post L w (.returned (.slice Av pre.length cv)) V := fun V h => wa.post (wa.I_below hI5 h) hend (hbw5.trans (h.mono hbw5.size))
      have HPOST := Lib.hid hpost; clear hpost hend hnone hI5 hbw5
      go_wp2_with fail
      go_quiet (fail)
      go_wp2_with fail
      (try rw [Exit.noGoto_ret])
      go_ret
      exact HPOST.out _ (bdrew ((Below.refl _ _).alloc (Nat.le_refl _) _) _)
    · have his := dec.is_of HL.out hyes
      have hu1 := his.fits
      rw [HLEN.out] at hu1
      obtain ⟨hmay, -, -, -⟩ := Bat.check_ok his.check
      obtain ⟨m0, m1, m2, m3, -⟩ := hmay
      have hdep5 : Dep (fun k => (Value.slice Av pre.length cv).ownBlock ≠ some k) w5 (fun U => RecsV U (.slice A' b.recs.length c') b.recs) := hrow.dep.weak fun k hk _ e => by
        have := (HII.out.1.lt k e).2
        omega
      obtain ⟨nv, hnv⟩ : ∃ nv, nv = b.recs.length := ⟨_, rfl⟩
      unfold Bat.hval
      rw [← hnv] at hdep5 ⊢
      have HNV := Lib.hid hnv; clear hnv hrow
      go_upto_region 4 with fail
      obtain ⟨w6, hw6⟩ : ∃ w6, w6 = w5.alloc (.cells #[.int .i64 b.base, .int .i64 b.last, .int .i64 b.prod, .int .i64 b.epoch, .int .i64 b.seq, .slice A' nv c'] 50) := ⟨_, rfl⟩
      have hb56 : Below w5.heap.size w5 w6 := by rw [hw6]; exact (Below.refl _ _).alloc (Nat.le_refl _) _
      have hk6 : Blk w6 w5.heap.size 50 #[.int .i64 b.base, .int .i64 b.last, .int .i64 b.prod, .int .i64 b.epoch, .int .i64 b.seq, .slice A' nv c'] := by rw [hw6]; exact Blk.new _ _ _
      rw [← hw6]
      clear hw6
      have hI6 := wa.I_below hI5 hb56
      have hdep6 := hdep5.below hb56
      have hbw6 := hbw5.trans (hb56.mono hbw5.size)
      obtain ⟨pn, hpn⟩ : ∃ pn, pn = pre.length := ⟨_, rfl⟩
      rw [← hpn] at hcv hpl hI6 hdep6 ⊢
      have HI6 := Lib.hid hI6; clear hI6 hI5
      have HDEP6 := Lib.hid hdep6; clear hdep6 hdep5
      have HBW6 := Lib.hid hbw6; clear hbw6 hbw5
      clear HII
      have HIS := Lib.hid his; clear his
      have HYES := Lib.hid hyes; clear hyes
      have hlt6 : w5.heap.size < w6.heap.size := hk6.lt
      have k0 := hk6.cell 0 rfl
      have HK6 := Lib.hid hk6; clear hk6
      have hu0 : ((u : Int) == 0) = false := by simp; omega
      have happ : ∀ (ahead2 : Int), ahead2 = ahead → ahead2 < b.base → ∃ g', L.length ≤ at' + u + g' ∧ gk = g' + 1 ∧ (pre ++ [((at', b), (A', c'))]).map Prod.fst ++ dec.walkF g' L (at' + u) b.last = dec.walk L := fun a2 e hlow => by
        subst e
        obtain ⟨g', hg', hf2, hwk⟩ := dec.walk_step HL.out (g := gk) HYES.out hlow HFUEL.out
        refine ⟨g', hf2, hg', ?_⟩
        have h := HWALK.out
        rw [hwk] at h
        rw [List.map_append, List.append_assoc]
        exact h
      have HAPP := Lib.hid happ; clear happ
      have hah1 : pre = [] → ahead = -1 := fun h => by
        rcases hah with ⟨-, h2⟩ | ⟨pre0, x, h2, -⟩
        · exact h2
        · rw [h] at h2
          have := congrArg List.length h2
          simp at this
      have HAH1 := Lib.hid hah1; clear hah1
      go_cut [33] from 7 to 43 (fun s33 wx => s33 = .bool (decide (b.base ≤ ahead)) ∧ ∃ q, wx = w6.drewN q)
      case first =>
        rcases hah with ⟨hpre, hahd⟩ | ⟨pre0, x, hpre, hahd⟩
        · obtain rfl : pn = 0 := by rw [hpn, hpre]; rfl
          have hlow : decide (b.base ≤ ahead) = false := decide_eq_false (by omega)
          have HLOW := Lib.hid hlow; clear hlow hpn hpre hahd
          go_quiet (fail)
          go_wp2_with fail
          go_meet
          case rel => exact ⟨by rw [HLOW.out], _, rfl⟩
        · obtain ⟨k, rfl⟩ : ∃ k, pn = k + 1 := ⟨pre0.length, by rw [hpn, hpre]; simp⟩
          have hI7 := HI6.out.1
          rw [← hpn] at hI7
          obtain ⟨g0, cap0, hv0, hg1, -, hg2⟩ := own_form hI7 (by omega)
          obtain ⟨rfl, rfl⟩ : Av = some ⟨g0, 0, none⟩ ∧ cv = cap0 := by simpa using hv0
          have hcell : w6.cell? ⟨g0, k * 7 + 2, none⟩ = some (.int .i64 ahead) := by
            have hx : pre[k]? = some x := by
              rw [hpre, List.getElem?_append_right (by rw [hpre] at hpn; simp at hpn; omega)]
              have : k - pre0.length = 0 := by rw [hpre] at hpn; simp at hpn; omega
              rw [this]
              rfl
            have h1 := wa.row_get pre k 2 x hx (by omega)
            have h2 : (wa.row pre)[k * 7 + 2]? = some (.int .i64 ahead) := by
              have hl : k * 7 + 2 < (wa.row pre).length := by
                unfold wa.row
                rw [flat_len wa.cell7 7 (fun _ => rfl), ← hpn]
                omega
              rw [List.getElem?_eq_getElem hl]
              simp only [List.getD, List.getElem?_eq_getElem hl, Option.getD_some] at h1
              rw [h1, hahd]
              rfl
            have h3 := hI7.cells (g := g0) rfl _ _ h2
            rw [add_none, Nat.zero_add] at h3
            exact h3
          clear hpn hpre hahd hI7 hv0
          go_quiet (fail)
          go_wp2_with fail
          go_meet
          case rel => exact ⟨rfl, _, rfl⟩
      case rest =>
        obtain ⟨rfl, q6, hwc⟩ := hcut
        have hbc : Below w6.heap.size w6 wc := by rw [hwc]; exact bdrew (Below.refl _ _) q6
        have hzc : w6.heap.size = wc.heap.size := by rw [hwc]; rfl
        clear hwc k0
        have hI7 := wa.I_below HI6.out hbc
        have hdep7 := HDEP6.out.below hbc
        have hbw7 := HBW6.out.trans (hbc.mono HBW6.out.size)
        have HK7 := Lib.hid ((chg_of (P := fun _ => False) hbc).blk HK6.out id)
        have hlt7 : w5.heap.size < wc.heap.size := HK7.out.lt
        clear hbc hzc
        by_cases hlow : b.base ≤ ahead
        · have hend : pre.map Prod.fst = dec.walk L := by
            have h := HWALK.out
            rw [dec.walk_low HYES.out hlow, List.append_nil] at h
            exact h
          have HPOST := Lib.hid (wa.post hI7 hend hbw7)
          clear hend hI7 hdep7 hbw7 hah
          have hd1 : decide (b.base ≤ ahead) = true := decide_eq_true hlow
          rw [hd1]
          clear hd1 hlow hpn
          go_wp2_with fail
          (try rw [Exit.noGoto_ret])
          go_ret
          exact HPOST.out
        · have hd1 : decide (b.base ≤ ahead) = false := decide_eq_false hlow
          rw [hd1]
          obtain ⟨g', hf2, hgk, hw2⟩ := HAPP.out ahead rfl (by omega)
          subst hgk
          obtain ⟨w8, hw8⟩ : ∃ w8, w8 = wc.alloc (.cells #[.int .i64 (at' : Int), .int .i64 b.base, .int .i64 b.last, .int .i64 b.prod, .int .i64 b.epoch, .int .i64 b.seq, .slice A' nv c'] 52) := ⟨_, rfl⟩
          have hb8 : Below wc.heap.size wc w8 := by rw [hw8]; exact (Below.refl _ _).alloc (Nat.le_refl _) _
          have hI8 := wa.I_below hI7 hb8
          have hdep8 := hdep7.below hb8
          rw [HNV.out] at hdep8
          have hbw8 := hbw7.trans (hb8.mono hbw7.size)
          have hat8 : At w8 (some ⟨wc.heap.size, 0, none⟩) (1 * 7) (fun j => ([.int .i64 (at' : Int), .int .i64 b.base, .int .i64 b.last, .int .i64 b.prod, .int .i64 b.epoch, .int .i64 b.seq, .slice A' nv c'] : List Value).getD j undef) := by
            rw [hw8]
            exact (At.new wc #[.int .i64 (at' : Int), .int .i64 b.base, .int .i64 b.last, .int .i64 b.prod, .int .i64 b.epoch, .int .i64 b.seq, .slice A' nv c'] 52 (n := 1 * 7) rfl).congr fun j hj => by match j, hj with | 0, _ => rfl | 1, _ => rfl | 2, _ => rfl | 3, _ => rfl | 4, _ => rfl | 5, _ => rfl | 6, _ => rfl
          have hown8 := hI8.1
          rw [← hpn] at hown8
          have hap : ∀ v2 w9, w9.ownsRow w.heap.size 52 7 v2 (pn + 1) (wa.row pre ++ cellsOf (1 * 7) (fun j => ([.int .i64 (at' : Int), .int .i64 b.base, .int .i64 b.last, .int .i64 b.prod, .int .i64 b.epoch, .int .i64 b.seq, .slice A' nv c'] : List Value).getD j undef)) → w8.grownBy w9 (Value.slice Av pn cv).ownBlock → Lies w8 (.slice Av pn cv) v2 →
              wa.I w.heap.size L v2 (pre ++ [((at', b), (A', c'))]) w9 ∧ Below w.heap.size w w9 := fun v2 w9 h1 h2 h3 => by
            refine ⟨wa.I_app (x := ((at', b), (A', c'))) hI8 hdep8 ⟨u, HIS.out⟩ ?_ h2 h3, hbw8.grown h2 hbw8.size fun g hg => (hown8.lt g hg).1⟩
            rw [hpn] at h1
            rw [HNV.out] at h1
            exact h1
          have HAP := Lib.hid hap; clear hap hI8 hdep8
          have HOWN := Lib.hid hown8; clear hown8
          have HAT8 := Lib.hid hat8; clear hat8
          have hsz8 : w.heap.size ≤ w8.heap.size := hbw8.size
          have HW2 := Lib.hid (And.intro hf2 hw2); clear hf2 hw2
          have HW8 := Lib.hid hw8; clear hw8
          clear hI7 hdep7 hbw7 hbw8 hb8 hah hd1
          have g0 : wc.cell? ⟨w5.heap.size, 0, none⟩ = some (.int .i64 b.base) := HK7.out.cell 0 rfl
          have g1 : wc.cell? ⟨w5.heap.size, 1, none⟩ = some (.int .i64 b.last) := HK7.out.cell 1 rfl
          have g2 : wc.cell? ⟨w5.heap.size, 2, none⟩ = some (.int .i64 b.prod) := HK7.out.cell 2 rfl
          have g3 : wc.cell? ⟨w5.heap.size, 3, none⟩ = some (.int .i64 b.epoch) := HK7.out.cell 3 rfl
          have g4 : wc.cell? ⟨w5.heap.size, 4, none⟩ = some (.int .i64 b.seq) := HK7.out.cell 4 rfl
          have g5 : wc.cell? ⟨w5.heap.size, 5, none⟩ = some (.slice A' nv c') := HK7.out.cell 5 rfl
          have HPN := Lib.hid hpn; clear hpn
          go_wp2_with (at_builtin; go_loud (rw [← HW8.out]; refine wpList_app2 _ rfl (.tmp 35) (.tmp 39) 46 rfl w.heap.size 52 i0 _ 7 72 Try.underlying46 HI.out.1 HI.out.2.1 HI.out.2.2.1 HI.out.2.2.2 rfl (by decide) _ pn _ rfl HOWN.out (some ⟨wc.heap.size, 0, none⟩) 1 1 _ rfl HAT8.out (fun j hj => by match j, hj with | 0, _ => rfl | 1, _ => rfl | 2, _ => rfl | 3, _ => rfl | 4, _ => rfl | 5, _ => rfl | 6, _ => rfl) (by unfold maxLen; omega) (by omega) hsz8 ?_; intro v2 w9 h1 h2 h3; have HR9 := Lib.hid (HAP.out v2 w9 h1 h2 h3); clear h1 h2 h3))
          go_roundg g'
          case measure => omega
          case rel => exact ⟨pre ++ [((at', b), (A', c'))], at' + u, b.last, by go_num, by omega, HW2.out.1, HW2.out.2, HR9.out.1, HR9.out.2, .inr ⟨pre, _, rfl, rfl⟩⟩

theorem ref.size_any (b : Bat) (A : Option Addr) (c : Nat) (w : World) (hv : RecsV w (.slice A b.recs.length c) b.recs) :
    Calls Try.prog 29 #[b.hval A b.recs.length c] w fun e w' => e = .returned (.int .i64 (b.enc.length : Int)) ∧ Below w.heap.size w w' := by
  have hen : ∀ wx, Below w.heap.size w wx → Calls Try.prog 43 #[b.hval A b.recs.length c] wx fun e w' => (∃ A' c', e = .returned (.tuple #[.slice A' b.enc.length c', .int .i64 b.check])) ∧ Below wx.heap.size wx w' := fun wx h =>
    (ref.encode_all b A c wx (hv.below h (Nat.le_refl _))).mono fun e w' hh => by
      obtain ⟨⟨A', c', h1, -⟩, h2⟩ := hh
      exact ⟨⟨A', c', h1⟩, h2⟩
  clear hv
  unfold Bat.hval at hen ⊢
  generalize b.recs.length = n at *
  generalize b.enc.length = en at *
  generalize b.check = K at *
  have HEN := Lib.hid hen; clear hen
  go_enter Try.func29, Try.ntmps29
  go_wp2_with fail
  have hb1 : Below w.heap.size w (w.alloc (.cells #[.int .i64 b.base, .int .i64 b.last, .int .i64 b.prod, .int .i64 b.epoch, .int .i64 b.seq, .slice A n c] 50)) := (Below.refl _ w).alloc (Nat.le_refl _) _
  refine (HEN.out _ hb1).mono ?_
  rintro e w2 ⟨⟨A', c', rfl⟩, hb2⟩
  have HB := Lib.hid (hb1.trans (hb2.mono hb1.size)); clear hb1 hb2
  go_wp2_with fail
  go_ret
  exact ⟨rfl, HB.out⟩

/-- The last of the places and batches. -/
theorem AtsAt.get {w : World} {A : Option Addr} {l : List (Nat × Bat)} (h : AtsAt w A l) {k : Nat} {x : Nat × Bat} (hx : l[k]? = some x) :
    ∃ b off v, A = some ⟨b, off, none⟩ ∧ b < w.heap.size ∧ w.cell? ⟨b, off + k * 7, none⟩ = some (.int .i64 (x.1 : Int)) ∧ w.cell? ⟨b, off + k * 7 + 1, none⟩ = some (.int .i64 x.2.base) ∧ w.cell? ⟨b, off + k * 7 + 2, none⟩ = some (.int .i64 x.2.last) ∧ w.cell? ⟨b, off + k * 7 + 3, none⟩ = some (.int .i64 x.2.prod) ∧
      w.cell? ⟨b, off + k * 7 + 4, none⟩ = some (.int .i64 x.2.epoch) ∧ w.cell? ⟨b, off + k * 7 + 5, none⟩ = some (.int .i64 x.2.seq) ∧ w.cell? ⟨b, off + k * 7 + 6, none⟩ = some v ∧ RecsV w v x.2.recs := by
  obtain ⟨V, h1, h2⟩ := h
  have hk : k < l.length := (List.getElem?_eq_some_iff.1 hx).1
  obtain ⟨b, off, hA, hb, hc⟩ := h1 (by omega)
  obtain ⟨cs, h3, v, rfl, h4, -⟩ := h2 k x hx
  refine ⟨b, off, v, hA, hb, ?_, ?_, ?_, ?_, ?_, ?_, ?_, h4⟩
  · have := cellsAt_cell h3 0 (by omega) rfl
    rw [hc _ (by omega)]; exact congrArg some this
  all_goals rw [Nat.add_assoc, hc _ (by omega)]
  · exact congrArg some (cellsAt_cell h3 1 (by omega) rfl)
  · exact congrArg some (cellsAt_cell h3 2 (by omega) rfl)
  · exact congrArg some (cellsAt_cell h3 3 (by omega) rfl)
  · exact congrArg some (cellsAt_cell h3 4 (by omega) rfl)
  · exact congrArg some (cellsAt_cell h3 5 (by omega) rfl)
  · exact congrArg some (cellsAt_cell h3 6 (by omega) rfl)
theorem AtsAt.below {w w' : World} {A : Option Addr} {l : List (Nat × Bat)} {B : Nat} (h : AtsAt w A l) (hb : Below B w w') (hB : w.heap.size ≤ B) : AtsAt w' A l := by
  obtain ⟨V, h1, h2⟩ := h
  exact ⟨V, h1.below hb hB, fun i x hi => by
    obtain ⟨cs, h3, h4⟩ := h2 i x hi
    exact ⟨cs, h3, h4.below hb hB⟩⟩

end Go.Proofs.Ytchdolcnhopmjaa

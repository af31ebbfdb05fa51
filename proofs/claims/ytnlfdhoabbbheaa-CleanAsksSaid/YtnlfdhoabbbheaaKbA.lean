/- keymap.Build: of any batches it leaves the keys, and tells up to where, that the search over them says. -/
import Derived.BigFrame
import Derived.Deep.LoopGhost
import Derived.BigQuiet
import Derived.Deep.QuietTactic
import Derived.Test.YtnlfdhoabbbheaaKeyW
import Derived.Test.YtnlfdhoabbbheaaBatW
namespace Go.Proofs.Ytnlfdhoabbbheaa
open Go.RowKit Go.Maps

/-- Is a record counted? -/
def kb.use (f : Int) (r : Rec) : Bool := r.hasKey && decide (f ≤ r.off)
/-- How many keys are new with one more. -/
def kb.more (F : Nat) (h : ByteArray → Option Int) (s : ByteArray) : Nat := if (h s).isSome then F else F + 1
/-- Do all keys of records find room? -/
def kb.scan (f M : Int) (N : Nat) (g : ByteArray → Option Int) : Nat → (ByteArray → Option Int) → List Rec → Bool
  | _, _, [] => true
  | F, h, r :: rs =>
    if kb.use f r = false then kb.scan f M N g F h rs
    else if (g (strOf r.key)).isSome = true then (if M < (N : Int) + (F : Int) then false else kb.scan f M N g F h rs)
    else if M < (N : Int) + ((kb.more F h (strOf r.key) : Nat) : Int) then false else kb.scan f M N g (kb.more F h (strOf r.key)) (upd h (strOf r.key) ((h (strOf r.key)).getD 0 + 1)) rs
/-- What the offers of records leave. -/
def kb.offers (f M : Int) : Nat → (ByteArray → Option Int) → List Rec → Nat × (ByteArray → Option Int)
  | N, g, [] => (N, g)
  | N, g, r :: rs => if kb.use f r = true then kb.offers f M (key.cnt N M g (strOf r.key)) (key.put N M g (strOf r.key) r.off) rs else kb.offers f M N g rs
/-- What batches leave. -/
def kb.go (f M : Int) : Nat → (ByteArray → Option Int) → Int → List Bat → Nat × (ByteArray → Option Int) × Int
  | N, g, up, [] => (N, g, up)
  | N, g, _, b :: bs =>
    if kb.scan f M N g 0 (fun _ => none) b.recs = true then kb.go f M (kb.offers f M N g b.recs).1 (kb.offers f M N g b.recs).2 (max (b.last + 1) f) bs
    else (N, g, max b.base f)
theorem kb.cnt_le {N : Nat} {M : Int} {g : ByteArray → Option Int} {s : ByteArray} (h : (N : Int) ≤ M) : ((key.cnt N M g s : Nat) : Int) ≤ M := by
  unfold key.cnt
  split
  · exact h
  · split <;> omega
theorem kb.scan_drop {f M : Int} {N : Nat} {g : ByteArray → Option Int} {F : Nat} {h : ByteArray → Option Int} {rs : List Rec} {k : Nat} {r : Rec} (hr : rs[k]? = some r) :
    kb.scan f M N g F h (rs.drop k) = if kb.use f r = false then kb.scan f M N g F h (rs.drop (k + 1))
      else if (g (strOf r.key)).isSome = true then (if M < (N : Int) + (F : Int) then false else kb.scan f M N g F h (rs.drop (k + 1)))
      else if M < (N : Int) + ((kb.more F h (strOf r.key) : Nat) : Int) then false else kb.scan f M N g (kb.more F h (strOf r.key)) (upd h (strOf r.key) ((h (strOf r.key)).getD 0 + 1)) (rs.drop (k + 1)) := by
  obtain ⟨hk, e⟩ := List.getElem?_eq_some_iff.1 hr
  rw [List.drop_eq_getElem_cons hk, e]
  rfl
theorem kb.offers_drop {f M : Int} {N : Nat} {g : ByteArray → Option Int} {rs : List Rec} {k : Nat} {r : Rec} (hr : rs[k]? = some r) :
    kb.offers f M N g (rs.drop k) = if kb.use f r = true then kb.offers f M (key.cnt N M g (strOf r.key)) (key.put N M g (strOf r.key) r.off) (rs.drop (k + 1)) else kb.offers f M N g (rs.drop (k + 1)) := by
  obtain ⟨hk, e⟩ := List.getElem?_eq_some_iff.1 hr
  rw [List.drop_eq_getElem_cons hk, e]
  rfl
theorem kb.go_drop {f M : Int} {N : Nat} {g : ByteArray → Option Int} {up : Int} {bs : List Bat} {k : Nat} {b : Bat} (hb : bs[k]? = some b) :
    kb.go f M N g up (bs.drop k) = if kb.scan f M N g 0 (fun _ => none) b.recs = true then kb.go f M (kb.offers f M N g b.recs).1 (kb.offers f M N g b.recs).2 (max (b.last + 1) f) (bs.drop (k + 1)) else (N, g, max b.base f) := by
  obtain ⟨hk, e⟩ := List.getElem?_eq_some_iff.1 hb
  rw [List.drop_eq_getElem_cons hk, e]
  rfl
theorem kb.offers_le {f M : Int} : ∀ (rs : List Rec) (N : Nat) (g : ByteArray → Option Int), (N : Int) ≤ M → (((kb.offers f M N g rs).1 : Nat) : Int) ≤ M
  | [], _, _, h => h
  | r :: rs, N, g, h => by
    unfold kb.offers
    split
    · exact kb.offers_le rs _ _ (kb.cnt_le h)
    · exact kb.offers_le rs _ _ h

/-- What Build answers. -/
def kb.Post (f M : Int) (bs : List Bat) (w : World) (e : Ending) (w' : World) : Prop :=
  (∃ p b, e = .returned (.tuple #[.pointer (some ⟨p, 0, none⟩), .int .i64 (kb.go f M 0 (fun _ => none) f bs).2.2]) ∧ KM w' p b M (kb.go f M 0 (fun _ => none) f bs).1 (kb.go f M 0 (fun _ => none) f bs).2.1 ∧ w.heap.size ≤ p ∧ w.heap.size ≤ b) ∧ Below w.heap.size w w'
/-- How room is given. -/
def kb.Most (most M : Int) : Prop := M = min (max most 1) 1000000

set_option maxRecDepth 100000 in
set_option maxHeartbeats 4000000 in
theorem kb.build_any (A : Option Addr) (bs : List Bat) (n c : Nat) (f most M : Int) (w : World) (hat : BatsAt w A bs) (hn : bs.length = n) (hn1 : n ≤ 1000000) (hrec : ∀ b ∈ bs, b.recs.length ≤ 1000000 ∧ b.last ≤ 4611686018427387904) (hM : kb.Most most M) :
    Calls Try.prog 14 #[.slice A n c, .int .i64 f, .int .i64 most] w (kb.Post f M bs w) := by
  have HAT := Lib.hid hat; clear hat
  have HREC := Lib.hid hrec; clear hrec
  have HN := Lib.hid hn; clear hn
  unfold kb.Most at hM
  have hm1 : 1 ≤ M := by omega
  have hm2 : M ≤ 1000000 := by omega
  have hnew : ∀ v : Int, v = M → Calls Try.prog 32 #[.int .i64 v] w (key.NewPost w M) := fun v h => by rw [h]; exact key.new_any M w ⟨hm1, hm2⟩
  have HNEW := Lib.hid hnew; clear hnew
  obtain ⟨R, hR⟩ : ∃ R, R = kb.go f M 0 (fun _ => none) f bs := ⟨_, rfl⟩
  obtain ⟨NR, gR, uR⟩ := R
  have hfin : ∀ (p b : Nat) w', KM w' p b M NR gR → w.heap.size ≤ p → w.heap.size ≤ b → Below w.heap.size w w' → kb.Post f M bs w (.returned (.tuple #[.pointer (some ⟨p, 0, none⟩), .int .i64 uR])) w' := fun p b w' h1 h2 h3 h4 => by
    unfold kb.Post
    rw [← hR]
    exact ⟨⟨p, b, rfl, h1, h2, h3⟩, h4⟩
  have HFIN := Lib.hid hfin; clear hfin
  have HR := Lib.hid hR; clear hR
  have hmm := @run_makeMap Try.prog
  obtain ⟨X, hX⟩ : ∃ X, (if most < 1 then 1 else most) = X := ⟨_, rfl⟩
  have hMX : (if 1000000 < X then 1000000 else X) = M := by rw [← hX]; split <;> split <;> omega
  clear hM
  go_enter Try.func14, Try.ntmps14
  go_wp2_with fail
  go_step3
  go_wp2_with fail
  refine (key.new_any M w ⟨hm1, hm2⟩).mono ?_
  rintro e w1 ⟨⟨p, b, rfl, hk1, hp1, hb1⟩, hbe1⟩
  have HX := Lib.hid (And.intro hX hMX); clear hX hMX
  have HK1 := Lib.hid hk1; clear hk1
  have HB1 := Lib.hid hbe1; clear hbe1 HNEW
  go_wp2_with fail
  go_step3
  go_wp2_with fail
  go_loopg [10, 30] n (fun gas s10 s30 wx => ∃ (k N : Nat) (gg : ByteArray → Option Int) (up : Int), k + gas = n ∧ s10 = .int .i64 up ∧ s30 = .int .i64 (k : Int) ∧ kb.go f M N gg up (bs.drop k) = (NR, gR, uR) ∧ KM wx p b M N gg ∧ (N : Int) ≤ M ∧ Below w.heap.size w wx)
  case atStart => exact ⟨0, 0, fun _ => none, f, by omega, rfl, rfl, HR.out.symm, HK1.out, by omega, HB1.out⟩
  case round =>
    obtain ⟨k, N, gg, up, hkg, rfl, rfl, hgo, hkm, hNM, hbw⟩ := hrel
    have HGO := Lib.hid hgo; clear hgo HR HK1 HB1
    have HKM := Lib.hid hkm; clear hkm
    have HBW := Lib.hid hbw; clear hbw
    cases gk with
    | zero =>
      obtain rfl : k = n := by omega
      have hgo := HGO.out
      rw [List.drop_of_length_le (by rw [HN.out]; exact Nat.le_refl _)] at hgo
      have hq : N = NR ∧ gg = gR ∧ up = uR := by simpa [kb.go] using hgo
      obtain ⟨rfl, rfl, rfl⟩ := hq
      clear hgo HGO
      go_wp2_with fail
      (try rw [Exit.noGoto_ret])
      go_ret2
      exact HFIN.out p b wr HKM.out hp1 hb1 HBW.out
    | succ gas =>
      have hkn : k < n := by omega
      obtain ⟨x, hx⟩ : ∃ x, bs[k]? = some x := ⟨_, List.getElem?_eq_getElem (by rw [HN.out]; exact hkn)⟩
      obtain ⟨hrl, hla⟩ := HREC.out x (List.mem_of_getElem? hx)
      have hgd := HGO.out
      rw [kb.go_drop hx] at hgd
      obtain ⟨b2, off2, v2, hA2, hb2, c0, c1, c2, c3, c4', c5, hrecs, hi0, hi1, -⟩ := HAT.out.at' hx
      subst hA2
      obtain ⟨A4, c4, V4, rfl, hmc, hc4, -⟩ := id hrecs
      obtain ⟨m, hm⟩ : ∃ m, m = x.recs.length := ⟨_, rfl⟩
      have HRECS := Lib.hid hrecs; clear hrecs
      rw [← hm] at c5 hrl hmc
      have HM := Lib.hid hm; clear hm hx
      have HGD := Lib.hid hgd; clear hgd HGO
      unfold i64ok at hi0 hi1
      have hbw0 := HBW.out
      have e0 : wr.cell? ⟨b2, off2 + k * 6, none⟩ = some (.int .i64 x.base) := (hbw0.cell (p := ⟨b2, off2 + k * 6, none⟩) hb2).trans c0
      have e1 : wr.cell? ⟨b2, off2 + k * 6 + 1, none⟩ = some (.int .i64 x.last) := (hbw0.cell (p := ⟨b2, off2 + k * 6 + 1, none⟩) hb2).trans c1
      have e2 : wr.cell? ⟨b2, off2 + k * 6 + 2, none⟩ = some (.int .i64 x.prod) := (hbw0.cell (p := ⟨b2, off2 + k * 6 + 2, none⟩) hb2).trans c2
      have e3 : wr.cell? ⟨b2, off2 + k * 6 + 3, none⟩ = some (.int .i64 x.epoch) := (hbw0.cell (p := ⟨b2, off2 + k * 6 + 3, none⟩) hb2).trans c3
      have e4 : wr.cell? ⟨b2, off2 + k * 6 + 4, none⟩ = some (.int .i64 x.seq) := (hbw0.cell (p := ⟨b2, off2 + k * 6 + 4, none⟩) hb2).trans c4'
      have e5 : wr.cell? ⟨b2, off2 + k * 6 + 5, none⟩ = some (.slice A4 m c4) := (hbw0.cell (p := ⟨b2, off2 + k * 6 + 5, none⟩) hb2).trans c5
      clear c0 c1 c2 c3 c4' c5 hbw0
      go_wp2_with fail
      obtain ⟨q, hq⟩ : ∃ q, q = wr.heap.size := ⟨_, rfl⟩
      obtain ⟨w2, hw2⟩ : ∃ w2, w2 = (wr.alloc (.cells #[.int .i64 x.base, .int .i64 x.last, .int .i64 x.prod, .int .i64 x.epoch, .int .i64 x.seq, .slice A4 m c4] 46)).alloc (.map #[] 0) := ⟨_, rfl⟩
      rw [← hw2, ← hq]
      have hbl2 : Below wr.heap.size wr w2 := by rw [hw2]; exact ((Below.refl _ _).alloc (Nat.le_refl _) _).alloc (by simp) _
      have hk2 : Blk w2 q 46 #[.int .i64 x.base, .int .i64 x.last, .int .i64 x.prod, .int .i64 x.epoch, .int .i64 x.seq, .slice A4 m c4] := by rw [hw2, hq]; exact (Below.heap_alloc _ _ _ (by simp)).trans (Blk.new wr _ _)
      have hs2 : SM w2 (q + 1) 0 (fun _ => none) := by
        have h := SM.made (wr.alloc (.cells #[.int .i64 x.base, .int .i64 x.last, .int .i64 x.prod, .int .i64 x.epoch, .int .i64 x.seq, .slice A4 m c4] 46))
        rw [World.size_alloc, ← hq, ← hw2] at h
        exact h
      have hm2' := HKM.out.keep hbl2
      have hpq : p < q := by rw [hq]; exact HKM.out.blk.lt
      have hbq : b < q := by rw [hq]; exact HKM.out.map.lt
      have hB2 := HBW.out.trans (hbl2.mono HBW.out.size)
      have hqw : w.heap.size ≤ q := by rw [hq]; exact HBW.out.size
      have H0 := Lib.hid (And.intro hk2 (And.intro hs2 (And.intro hm2' hB2))); clear hk2 hs2 hm2' hB2 hbl2
      clear hw2 hq e0 e1 e2 e3 e4 e5 HKM HBW
      obtain ⟨S, hS⟩ : ∃ S, S = kb.scan f M N gg 0 (fun _ => none) x.recs := ⟨_, rfl⟩
      have hgd := HGD.out
      rw [← hS] at hgd
      have HS := Lib.hid hS; clear hS HGD
      have HGD := Lib.hid hgd; clear hgd
      go_loopg [10, 38] m (fun gas s10 s38 wx => ∃ (j F : Nat) (h : ByteArray → Option Int), j + gas = m ∧ s10 = .int .i64 up ∧ s38 = .int .i64 (j : Int) ∧ kb.scan f M N gg F h (x.recs.drop j) = S ∧ F ≤ j ∧ (∀ s, 0 ≤ (h s).getD 0 ∧ (h s).getD 0 ≤ (j : Int)) ∧ Blk wx q 46 #[.int .i64 x.base, .int .i64 x.last, .int .i64 x.prod, .int .i64 x.epoch, .int .i64 x.seq, .slice A4 m c4] ∧ SM wx (q + 1) F h ∧ KM wx p b M N gg ∧ Below w.heap.size w wx)
      case atStart => exact ⟨0, 0, fun _ => none, by omega, rfl, rfl, HS.out.symm, by omega, fun s => by simp, H0.out.1, H0.out.2.1, H0.out.2.2.1, H0.out.2.2.2⟩
      case round =>
        obtain ⟨j, F, h, hjg, rfl, rfl, hsc, hFj, hcnt, hblk, hsm, hkm, hby⟩ := hrel
        clear H0 HS
        have HBY := Lib.hid hby; clear hby
        have hbk5 := hblk.cell 5 (v := .slice A4 m c4) rfl
        have hbk1 := hblk.cell 1 (v := .int .i64 x.last) rfl
        have hbk0 := hblk.cell 0 (v := .int .i64 x.base) rfl
        have hqz : q < wr.heap.size := hblk.lt
        have HBLK := Lib.hid hblk; clear hblk
        have HKM := Lib.hid hkm; clear hkm
        have HSM := Lib.hid hsm; clear hsm
        have HCNT := Lib.hid hcnt; clear hcnt
        cases gk with
        | zero =>
          obtain rfl : m = j := by omega
          rw [List.drop_of_length_le (by rw [← HM.out]; exact Nat.le_refl _)] at hsc
          have hS : S = true := by rw [← hsc]; rfl
          have hgd := HGD.out
          rw [hS, if_pos rfl] at hgd
          clear hsc hS HGD
          obtain ⟨N2, gg2, hof⟩ : ∃ a b, kb.offers f M N gg x.recs = (a, b) := ⟨_, _, rfl⟩
          have hle2 := kb.offers_le (f := f) x.recs N gg hNM
          rw [hof] at hgd hle2
          dsimp only at hgd hle2
          have HGD := Lib.hid hgd; clear hgd
          have HOF := Lib.hid hof; clear hof HSM HCNT hFj
          obtain ⟨U, hU⟩ : ∃ U, (if x.last + 1 < f then f else x.last + 1) = U := ⟨_, rfl⟩
          have hU2 : max (x.last + 1) f = U := by rw [← hU]; split <;> omega
          rw [hU2] at HGD
          clear hU2
          have HU := Lib.hid hU; clear hU hbk1 hbk0
          go_wp2_with fail
          obtain ⟨wo, rfl⟩ : ∃ wo : World, wo = wr := ⟨_, rfl⟩
          go_loopg [84] m (fun gas s84 wx => ∃ (j N' : Nat) (gg' : ByteArray → Option Int), j + gas = m ∧ s84 = .int .i64 (j : Int) ∧ kb.offers f M N' gg' (x.recs.drop j) = (N2, gg2) ∧ (N' : Int) ≤ M ∧ Blk wx q 46 #[.int .i64 x.base, .int .i64 x.last, .int .i64 x.prod, .int .i64 x.epoch, .int .i64 x.seq, .slice A4 m c4] ∧ KM wx p b M N' gg' ∧ Below w.heap.size w wx)
          case atStart => exact ⟨0, N, gg, by omega, rfl, HOF.out, hNM, HBLK.out, HKM.out, HBY.out⟩
          case round =>
            obtain ⟨j, N', gg', hjg, rfl, hof, hNM', hblk, hkm, hbz⟩ := hrel
            clear HBLK HKM HOF HBY
            have HBZ := Lib.hid hbz; clear hbz
            have hbk1 := hblk.cell 1 (v := .int .i64 x.last) rfl
            have hqz' : q < wr.heap.size := hblk.lt
            have HBLK := Lib.hid hblk; clear hblk
            have HKM := Lib.hid hkm; clear hkm
            have HOF := Lib.hid hof; clear hof
            cases gk with
            | zero =>
              obtain rfl : m = j := by omega
              have hof := HOF.out
              rw [List.drop_of_length_le (by rw [← HM.out]; exact Nat.le_refl _)] at hof
              have hq : N' = N2 ∧ gg' = gg2 := by simpa [kb.offers] using hof
              obtain ⟨rfl, rfl⟩ := hq
              clear hof HOF
              have hU := HU.out
              have hl1 : -9223372036854775808 ≤ x.last := hi1.1
              go_wp2_with fail
              go_roundg gas
              case measure => omega
              case rel => exact ⟨k + 1, N', gg', U, by omega, by first | rfl | (rw [hU]), by go_num, HGD.out, HKM.out, hNM', HBZ.out⟩
            | succ g2 =>
              have hjm : j < m := by omega
              obtain ⟨r, hr⟩ : ∃ r, x.recs[j]? = some r := ⟨_, List.getElem?_eq_getElem (by rw [← HM.out]; exact hjm)⟩
              have hofd := HOF.out
              rw [kb.offers_drop hr] at hofd
              obtain ⟨pr, off, c', kv, vv, hA, -, -, hpr, d0, d1, d2, d3, d4, d5, hkk, hvv, hio, -⟩ := (HRECS.out.below HBZ.out (Nat.le_refl _)).at' hr
              obtain ⟨rfl, rfl⟩ : A4 = some ⟨pr, off, none⟩ ∧ c4 = c' := by simpa using hA
              obtain ⟨Ak, ck, rfl, hka, hk1, hk2, -⟩ := hkk
              obtain ⟨Av, cv, rfl, -, -, -, -⟩ := hvv
              have HKA := Lib.hid hka; clear hka hA hr
              have HOFD := Lib.hid hofd; clear hofd HOF
              have hbe := HBZ.out.alloc HBZ.out.size (.cells #[.int .i64 r.off, .int .i64 r.time, .bool r.hasKey, .slice Ak r.key.length ck, .bool r.hasVal, .slice Av r.val.length cv] 34)
              have hkb := HKM.out.keep ((Below.refl _ _).alloc (Nat.le_refl _) (.cells #[.int .i64 r.off, .int .i64 r.time, .bool r.hasKey, .slice Ak r.key.length ck, .bool r.hasVal, .slice Av r.val.length cv] 34))
              have hbb := (Below.heap_alloc _ (.cells #[.int .i64 r.off, .int .i64 r.time, .bool r.hasKey, .slice Ak r.key.length ck, .bool r.hasVal, .slice Av r.val.length cv] 34) _ hqz').trans HBLK.out
              have HV := Lib.hid (And.intro hbe (And.intro hkb hbb)); clear hbe hkb hbb
              by_cases hhk : r.hasKey = true
              · by_cases hfo : f ≤ r.off
                · have hofd := HOFD.out
                  rw [if_pos (by unfold kb.use; rw [hhk, decide_eq_true hfo]; rfl)] at hofd
                  have HOF2 := Lib.hid hofd; clear hofd HOFD
                  rw [hhk] at d2
                  have hoff := key.offer_any p b M N' gg' Ak ck r.key r.off (wr.alloc (.cells #[.int .i64 r.off, .int .i64 r.time, .bool r.hasKey, .slice Ak r.key.length ck, .bool r.hasVal, .slice Av r.val.length cv] 34)) HV.out.2.1 (Nat.le_trans hk1 hk2) (HKA.out.alloc _) (by unfold i64ok at hio; exact hio) (by unfold maxLen; omega)
                  rw [hhk] at hoff HV
                  have HOFF := Lib.hid hoff; clear hoff
                  go_wp2_with fail
                  refine HOFF.out.mono ?_
                  rintro e w3 ⟨rfl, hk3, hc3, hz3⟩
                  have hbz3 := HV.out.1.trans (hc3.below HV.out.1.size fun k hk => by have hk : k = b := hk; omega)
                  have hbb3 := hc3.blk HV.out.2.2 (show ¬ q = b by omega)
                  have HW3 := Lib.hid (And.intro hk3 (And.intro hbz3 hbb3)); clear hk3 hbz3 hbb3 hc3
                  go_wp2_with fail
                  go_roundg g2
                  case measure => omega
                  case rel => exact ⟨j + 1, _, _, by omega, by go_num, HOF2.out, kb.cnt_le hNM', HW3.out.2.2, HW3.out.1, HW3.out.2.1⟩
                · have hofd := HOFD.out
                  rw [if_neg (by unfold kb.use; rw [hhk, decide_eq_false hfo]; simp)] at hofd
                  have HOF2 := Lib.hid hofd; clear hofd HOFD
                  rw [hhk] at d2 HV
                  have hd : decide (f ≤ r.off) = false := by simpa using hfo
                  go_wp2_with fail
                  go_roundg g2
                  case measure => omega
                  case rel => exact ⟨j + 1, _, _, by omega, by go_num, HOF2.out, hNM', HV.out.2.2, HV.out.2.1, HV.out.1⟩
              · have hhk : r.hasKey = false := by simpa using hhk
                have hofd := HOFD.out
                rw [if_neg (by unfold kb.use; rw [hhk]; simp)] at hofd
                have HOF2 := Lib.hid hofd; clear hofd HOFD
                rw [hhk] at d2 HV
                go_wp2_with fail
                go_roundg g2
                case measure => omega
                case rel => exact ⟨j + 1, _, _, by omega, by go_num, HOF2.out, hNM', HV.out.2.2, HV.out.2.1, HV.out.1⟩
        | succ g2 =>
          have hjm : j < m := by omega
          obtain ⟨r, hr⟩ : ∃ r, x.recs[j]? = some r := ⟨_, List.getElem?_eq_getElem (by rw [← HM.out]; exact hjm)⟩
          rw [kb.scan_drop hr] at hsc
          obtain ⟨pr, off, c', kv, vv, hA, -, -, hpr, d0, d1, d2, d3, d4, d5, hkk, hvv, hio, -⟩ := (HRECS.out.below HBY.out (Nat.le_refl _)).at' hr
          obtain ⟨rfl, rfl⟩ : A4 = some ⟨pr, off, none⟩ ∧ c4 = c' := by simpa using hA
          obtain ⟨Ak, ck, rfl, hka, hk1, hk2, -⟩ := hkk
          obtain ⟨Av, cv, rfl, -, -, -, -⟩ := hvv
          have HKA := Lib.hid hka; clear hka hA hr
          have HSCD := Lib.hid hsc; clear hsc
          have hbe := HBY.out.alloc HBY.out.size (.cells #[.int .i64 r.off, .int .i64 r.time, .bool r.hasKey, .slice Ak r.key.length ck, .bool r.hasVal, .slice Av r.val.length cv] 34)
          have hkb := HKM.out.keep ((Below.refl _ _).alloc (Nat.le_refl _) (.cells #[.int .i64 r.off, .int .i64 r.time, .bool r.hasKey, .slice Ak r.key.length ck, .bool r.hasVal, .slice Av r.val.length cv] 34))
          have hbb := (Below.heap_alloc _ (.cells #[.int .i64 r.off, .int .i64 r.time, .bool r.hasKey, .slice Ak r.key.length ck, .bool r.hasVal, .slice Av r.val.length cv] 34) _ hqz).trans HBLK.out
          have hss := HSM.out.below ((Below.refl wr.heap.size _).alloc (Nat.le_refl _) (.cells #[.int .i64 r.off, .int .i64 r.time, .bool r.hasKey, .slice Ak r.key.length ck, .bool r.hasVal, .slice Av r.val.length cv] 34)) HSM.out.lt
          have hrb := Blk.new wr 34 #[.int .i64 r.off, .int .i64 r.time, .bool r.hasKey, .slice Ak r.key.length ck, .bool r.hasVal, .slice Av r.val.length cv]
          have HV := Lib.hid (And.intro hbe (And.intro hkb (And.intro hbb hss))); clear hbe hkb hbb hss
          have HRB := Lib.hid hrb; clear hrb
          clear hbk1 hbk5 hbk0
          by_cases hhk : r.hasKey = true
          · rw [hhk] at d2 HV HRB
            by_cases hfo : f ≤ r.off
            · have hsc := HSCD.out
              rw [if_neg (by unfold kb.use; rw [hhk, decide_eq_true hfo]; simp)] at hsc
              have hlast := key.last_any p b M N gg Ak ck r.key _ HV.out.2.1 (Nat.le_trans hk1 hk2) (HKA.out.alloc _)
              obtain ⟨s, hs⟩ : ∃ s, s = strOf r.key := ⟨_, rfl⟩
              have hsz : s.size ≤ maxLen := by rw [hs, strOf_size]; exact Nat.le_trans hk1 hk2
              rw [← hs] at hlast hsc
              have HSC := Lib.hid hsc; clear hsc HSCD
              have HLAST := Lib.hid hlast; clear hlast
              have HS_ := Lib.hid hs; clear hs
              have hnf : ¬ r.off < f := by omega
              go_wp2_with fail
              refine HLAST.out.mono ?_
              rintro e w' ⟨rfl, qq, rfl⟩
              have hk3 := key.of_drew HV.out.2.1 ⟨qq, rfl⟩
              have hs3 := HV.out.2.2.2.drew qq
              have hb3 := Blk.drew (show Blk _ q 46 #[.int .i64 x.base, .int .i64 x.last, .int .i64 x.prod, .int .i64 x.epoch, .int .i64 x.seq, .slice (some ⟨pr, off, none⟩) m c4] from HV.out.2.2.1) qq
              have hw3 := bdrew HV.out.1 qq
              have hr3 := HRB.out.drew qq
              have ha3 := (HKA.out.alloc (.cells #[.int .i64 r.off, .int .i64 r.time, .bool true, .slice Ak r.key.length ck, .bool r.hasVal, .slice Av r.val.length cv] 34)).drew qq
              clear HV HRB HLAST
              generalize (wr.alloc (.cells #[.int .i64 r.off, .int .i64 r.time, .bool true, .slice Ak r.key.length ck, .bool r.hasVal, .slice Av r.val.length cv] 34)).drewN qq = W3 at *
              obtain ⟨rb, hrbe⟩ : ∃ rb, rb = wr.heap.size := ⟨_, rfl⟩
              rw [← hrbe] at hr3 ⊢
              clear hrbe
              by_cases hsome : (gg s).isSome = true
              · have hsc := HSC.out
                rw [if_pos hsome] at hsc
                rw [hsome]
                have HSC2 := Lib.hid hsc; clear hsc HSC
                have HW := Lib.hid (And.intro hk3 (And.intro hs3 (And.intro hb3 hw3))); clear hk3 hs3 hb3 hw3 hr3 ha3
                have HCNT2 := Lib.hid (show ∀ s, 0 ≤ (h s).getD 0 ∧ (h s).getD 0 ≤ ((j + 1 : Nat) : Int) from fun s => by have := HCNT.out s; omega)
                have hlen := fun q' => (HW.out.2.1.drew q').len
                have hcl : ∀ q', Calls Try.prog 34 #[.pointer (some ⟨p, 0, none⟩)] (W3.drewN q') fun e w' => e = .returned (.int .i64 N) ∧ w' = W3.drewN q' := fun q' => key.len_any p b M N gg _ (key.of_drew HW.out.1 ⟨q', rfl⟩)
                have HCL := Lib.hid hcl; clear hcl
                have hp0 := HW.out.1.blk.cell 0 (v := .int .i64 M) rfl
                have hbase := HW.out.2.2.1.cell 0 (v := .int .i64 x.base) rfl
                have hNM1 : (N : Int) ≤ 1000000 := by omega
                by_cases hover : M < (N : Int) + (F : Int)
                · have hS : S = false := by
                    have h1 := HSC2.out
                    rw [if_pos hover] at h1
                    exact h1.symm
                  have hgd := HGD.out
                  rw [hS, if_neg (by simp)] at hgd
                  obtain ⟨U, hU⟩ : ∃ U, (if x.base < f then f else x.base) = U := ⟨_, rfl⟩
                  rw [show max x.base f = U by rw [← hU]; split <;> omega] at hgd
                  have hq : N = NR ∧ gg = gR ∧ U = uR := by simpa using hgd
                  obtain ⟨rfl, rfl, rfl⟩ := hq
                  clear hgd hS HGD HSC2
                  have HU := Lib.hid hU; clear hU
                  go_wp2_with fail
                  go_quiet ((go_at_call 34; with_reducible exact Calls.quiet_of_same (HCL.out _)))
                  have hU := HU.out
                  go_wp2_with fail
                  (try rw [Exit.noGoto_ret])
                  go_ret2
                  exact HFIN.out p b _ (key.of_drew HW.out.1 ⟨_, rfl⟩) hp1 hb1 (bdrew HW.out.2.2.2 _)
                · have hsc := HSC2.out
                  rw [if_neg hover] at hsc
                  have HSC3 := Lib.hid hsc; clear hsc HSC2
                  go_wp2_with fail
                  go_quiet ((go_at_call 34; with_reducible exact Calls.quiet_of_same (HCL.out _)))
                  go_wp2_with fail
                  go_roundg g2
                  case measure => omega
                  case rel => exact ⟨j + 1, F, h, by omega, rfl, by go_num, HSC3.out, by omega, HCNT2.out, HW.out.2.2.1.drew _, HW.out.2.1.drew _, key.of_drew HW.out.1 ⟨_, rfl⟩, bdrew HW.out.2.2.2 _⟩
              · have hsome : (gg s).isSome = false := by simpa using hsome
                have hsc := HSC.out
                rw [if_neg (by rw [hsome]; simp)] at hsc
                rw [hsome]
                obtain ⟨F2, hF2⟩ : ∃ F2, F2 = kb.more F h s := ⟨_, rfl⟩
                have hF2b : F2 ≤ j + 1 := by rw [hF2]; unfold kb.more; split <;> omega
                obtain ⟨ct, hct⟩ : ∃ ct, ct = (h s).getD 0 := ⟨_, rfl⟩
                obtain ⟨hct0, hct1⟩ := HCNT.out s
                rw [← hF2, ← hct] at hsc
                rw [← hct] at hct0 hct1
                obtain ⟨h2, hh2⟩ : ∃ h2, h2 = upd h s (ct + 1) := ⟨_, rfl⟩
                rw [← hh2] at hsc
                have hcnt2 : ∀ u, 0 ≤ (h2 u).getD 0 ∧ (h2 u).getD 0 ≤ ((j + 1 : Nat) : Int) := fun u => by
                  rw [hh2]
                  unfold upd
                  split
                  · simp; omega
                  · have := HCNT.out u; omega
                have HCNT2 := Lib.hid hcnt2; clear hcnt2
                have HSC2 := Lib.hid hsc; clear hsc HSC
                have hconv := conv_any (c := ck) Try.underlying32 Try.underlying5 Try.underlying9 r.key rfl ha3
                rw [← HS_.out] at hconv
                have hlook := hs3.look1 s hsz
                rw [← hct] at hlook
                obtain ⟨w4, hrun4, hs4, hc4', hz4⟩ := hs3.store s hsz (ct + 1) (by omega) (by unfold maxLen; omega)
                rw [← hh2, show (if (h s).isSome then F else F + 1) = F2 by rw [hF2]; rfl] at hs4
                have hk4 : KM w4 p b M N gg := ⟨hc4'.blk hk3.blk (show ¬ p = q + 1 by omega), hk3.map.chg hc4' (show ¬ b = q + 1 by omega)⟩
                have hb4 := hc4'.blk hb3 (show ¬ q = q + 1 by omega)
                have hw4 := hw3.trans (hc4'.below hw3.size fun k hk => by have hk : k = q + 1 := hk; omega)
                have r3 := hr3.cell 3 (v := .slice Ak r.key.length ck) rfl
                have HW := Lib.hid (And.intro hk4 (And.intro hs4 (And.intro hb4 hw4))); clear hk4 hs4 hb4 hw4 hk3 hs3 hb3 hw3 hr3 ha3 hc4' hz4
                have HCT := Lib.hid (And.intro hct (And.intro hF2 hh2)); clear hct hF2 hh2
                go_wp2_with fail
                clear hconv hlook hrun4 r3
                have hlen := fun q' => (HW.out.2.1.drew q').len
                have hcl : ∀ q', Calls Try.prog 34 #[.pointer (some ⟨p, 0, none⟩)] (w4.drewN q') fun e w' => e = .returned (.int .i64 N) ∧ w' = w4.drewN q' := fun q' => key.len_any p b M N gg _ (key.of_drew HW.out.1 ⟨q', rfl⟩)
                have HCL := Lib.hid hcl; clear hcl
                have hp0 := HW.out.1.blk.cell 0 (v := .int .i64 M) rfl
                have hbase := HW.out.2.2.1.cell 0 (v := .int .i64 x.base) rfl
                have hNM1 : (N : Int) ≤ 1000000 := by omega
                by_cases hover : M < (N : Int) + (F2 : Int)
                · have hS : S = false := by
                    have h1 := HSC2.out
                    rw [if_pos hover] at h1
                    exact h1.symm
                  have hgd := HGD.out
                  rw [hS, if_neg (by simp)] at hgd
                  obtain ⟨U, hU⟩ : ∃ U, (if x.base < f then f else x.base) = U := ⟨_, rfl⟩
                  rw [show max x.base f = U by rw [← hU]; split <;> omega] at hgd
                  have hq : N = NR ∧ gg = gR ∧ U = uR := by simpa using hgd
                  obtain ⟨rfl, rfl, rfl⟩ := hq
                  clear hgd hS HGD HSC2
                  have HU := Lib.hid hU; clear hU
                  go_wp2_with fail
                  go_quiet ((go_at_call 34; with_reducible exact Calls.quiet_of_same (HCL.out _)))
                  have hU := HU.out
                  go_wp2_with fail
                  (try rw [Exit.noGoto_ret])
                  go_ret2
                  exact HFIN.out p b _ (key.of_drew HW.out.1 ⟨_, rfl⟩) hp1 hb1 (bdrew HW.out.2.2.2 _)
                · have hsc := HSC2.out
                  rw [if_neg hover] at hsc
                  have HSC3 := Lib.hid hsc; clear hsc HSC2
                  go_wp2_with fail
                  go_quiet ((go_at_call 34; with_reducible exact Calls.quiet_of_same (HCL.out _)))
                  go_wp2_with fail
                  go_roundg g2
                  case measure => omega
                  case rel => exact ⟨j + 1, F2, h2, by omega, rfl, by go_num, HSC3.out, by omega, HCNT2.out, HW.out.2.2.1.drew _, HW.out.2.1.drew _, key.of_drew HW.out.1 ⟨_, rfl⟩, bdrew HW.out.2.2.2 _⟩
            · have hsc := HSCD.out
              rw [if_pos (by unfold kb.use; rw [hhk, decide_eq_false hfo]; rfl)] at hsc
              have HSC2 := Lib.hid hsc; clear hsc HSCD
              have hfo2 : r.off < f := by omega
              go_wp2_with fail
              go_roundg g2
              case measure => omega
              case rel => exact ⟨j + 1, F, h, by omega, rfl, by go_num, HSC2.out, by omega, (fun s => by have := HCNT.out s; omega), HV.out.2.2.1, HV.out.2.2.2, HV.out.2.1, HV.out.1⟩
          · have hhk : r.hasKey = false := by simpa using hhk
            have hsc := HSCD.out
            rw [if_pos (by unfold kb.use; rw [hhk]; rfl)] at hsc
            have HSC2 := Lib.hid hsc; clear hsc HSCD
            rw [hhk] at d2 HV HRB
            go_wp2_with fail
            go_roundg g2
            case measure => omega
            case rel => exact ⟨j + 1, F, h, by omega, rfl, by go_num, HSC2.out, by omega, (fun s => by have := HCNT.out s; omega), HV.out.2.2.1, HV.out.2.2.2, HV.out.2.1, HV.out.1⟩
end Go.Proofs.Ytnlfdhoabbbheaa

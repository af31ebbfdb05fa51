/- proto: Join; the document's Frames (chapter 20). -/
import Derived.BigQuiet
import Derived.Test.YtimcpbbcealkiaaFrB
import Derived.Test.YtimcpbbcealkiaaQcX
import Derived.Test.YtimcpbbcealkiaaQcY
import Derived.Test.YtimcpbbcealkiaaPqR
import Derived.Maps.AppendAt
namespace Go.Proofs.Ytimcpbbcealkiaa
open Go.RowKit Go.Maps
set_option maxRecDepth 20000
theorem frm.infoBytes : (Try.prog.info? 23).map (fun i => (i.zero, i.size, i.bytes)) = some (some (.slice none 0 0), 1, 24) := by kernel_rfl
theorem frm.join_le (l : List (List Nat)) (j : Nat) : (fr.join (l.take j)).length ≤ (fr.join l).length := by
  have h := List.take_append_drop j l
  have e : fr.join l = fr.join (l.take j) ++ fr.join (l.drop j) := by
    unfold fr.join
    rw [← List.flatten_append, ← List.map_append, h]
  rw [e, List.length_append]
  omega
/-- Rows of bytes, wherever they lie. -/
def BytesAt (w : World) (A : Option Addr) (n : Nat) (l : List (List Nat)) : Prop := ∃ V : Nat → Value, At w A n V ∧ n = l.length ∧ ∀ j, j < n → BytesV w (V j) (l.getD j [])
theorem BytesAt.below {w w' : World} {A : Option Addr} {n : Nat} {l : List (List Nat)} {B : Nat} (h : BytesAt w A n l) (hb : Below B w w') (hB : w.heap.size ≤ B) : BytesAt w' A n l := by
  obtain ⟨V, h1, h2, h3⟩ := h
  exact ⟨V, h1.below hb hB, h2, fun j hj => (h3 j hj).below hb hB⟩
set_option maxHeartbeats 4000000 in
theorem frm.join_any (l : List (List Nat)) (A : Option Addr) (n c : Nat) (w : World) (h : BytesAt w A n l) (hl : (fr.join l).length ≤ 1000000) (h4 : ∀ f ∈ l, f.length ≤ 131072) :
    Calls Try.prog 23 #[.slice A n c] w fun e w' => ∃ v, e = .returned (.tuple #[v, .int .i64 0]) ∧ Acc w v (fr.join l) w' := by
  obtain ⟨V, hat, hn, hv⟩ := h
  have hn2 : n ≤ 1000000 := by
    have : 4 * l.length ≤ (fr.join l).length := by
      clear hl h4 hn hv hat
      induction l with
      | nil => simp
      | cons f l ih => rw [fr.join_cons, List.length_append, fr.one_len, List.length_cons]; omega
    omega
  have H := Lib.hid (And.intro hat (And.intro hv (And.intro hl (And.intro h4 hn)))); clear hat hv hl h4 hn
  go_enter Try.func23, Try.ntmps23
  go_wp2_with fail
  go_loopw [4, 6, 7, 8, 11] (fun v _ _ _ i wx => ∃ j : Nat, j ≤ n ∧ i = .int .i64 (j : Int) ∧ Acc w v (fr.join (l.take j)) wx) (fun _ _ _ _ i _ => n - (intOf i).toNat)
  case atStart => exact ⟨0, by omega, rfl, ⟨by simp only [List.take_zero, fr.join, List.map_nil, List.flatten_nil]; exact World.ownsRow_nil _ _ _ _, Below.refl _ _⟩⟩
  case round =>
    obtain ⟨j, hj, rfl, hacc⟩ := hrel
    by_cases hlt : j < n
    · have hlt' : (j : Int) < (n : Int) := by omega
      obtain ⟨f, hf⟩ : ∃ f, l[j]? = some f := ⟨_, List.getElem?_eq_getElem (by rw [← H.out.2.2.2.2]; exact hlt)⟩
      have hlg : l.getD j [] = f := by simp [List.getD, hf]
      obtain ⟨Aj, cj, hVj, hatj, -⟩ := H.out.2.1 j hlt
      rw [hlg] at hVj hatj
      obtain ⟨b, off, hA, hbl, hc⟩ := (H.out.1.below hacc.2 (Nat.le_refl _)) (show 0 < n by omega)
      have hcj := hc j hlt
      rw [hVj] at hcj
      have HSRC := Lib.hid (show At w Aj f.length (byteAt f) from hatj)
      have hatj' := hatj.below hacc.2 (Nat.le_refl _)
      have hfm : f.length ≤ 131072 := H.out.2.2.2.1 f (List.mem_of_getElem? hf)
      have hjn := fr.join_take hf
      have hlen : (fr.join (l.take j)).length + (fr.one f).length ≤ 1000000 := by
        have h1 := frm.join_le l (j + 1)
        rw [hjn, List.length_append] at h1
        have := H.out.2.2.1
        omega
      subst hA
      obtain ⟨m, hm⟩ : ∃ m, m = f.length := ⟨_, rfl⟩
      rw [← hm] at hcj hatj' hfm
      have d0 : decide (131072 < m) = false := decide_eq_false (by omega)
      have d1 : decide ((131072 : Int) < (m : Int)) = false := decide_eq_false (by omega)
      have HJ := Lib.hid (And.intro hacc (And.intro hatj' (And.intro hjn (And.intro hm hlen)))); clear hacc hatj' hjn hm hlen hc hVj hatj hlg hf
      have hw0 : WrL (wr.alloc (.cells #[.slice none 0 0, .bool false] 59)) wr.heap.size wr.heap.size [] (wr.alloc (.cells #[.slice none 0 0, .bool false] 59)) := WrL.start _ rfl
      have hfx := hw0.fixed (by simp) (m : Int) 4 (by omega) (by omega) (by omega) (by unfold wire.fit; simp; omega) (by omega)
      rw [List.nil_append, Int.toNat_natCast] at hfx
      have HFX := Lib.hid hfx; clear hfx hw0
      obtain ⟨be, hbe⟩ : ∃ be, be = wire.be m 4 := ⟨_, rfl⟩
      have hbl4 : be.length = 4 := by rw [hbe, wire.be_len]
      have hone : fr.one f = be ++ f := by unfold fr.one; rw [hbe, HJ.out.2.2.2.1]
      have HBE := Lib.hid (And.intro hbe (And.intro hbl4 hone)); clear hbe hbl4 hone
      go_wp2_with (first
        | (go_at_call 27; refine HFX.out.mono ?_; rintro en x1 ⟨rfl, h1⟩; rw [← HBE.out.1] at h1; have HW := Lib.hid h1; clear h1)
        | (go_at_call 32; refine (HW.out.done (by rw [HBE.out.2.1]; omega)).mono ?_; rintro en x2 ⟨⟨u, rfl, h1⟩, h2⟩; rw [HBE.out.2.1] at h1; obtain ⟨Au, cu, rfl, -, -⟩ := own_at h1; obtain ⟨Au9, cu9, e9, -, -, hatu⟩ := own_bytes h1; obtain ⟨rfl, rfl⟩ : Au = Au9 ∧ cu = cu9 := (by simpa using e9); have hbx : Below wr.heap.size wr x2 := (((Below.refl wr.heap.size wr).alloc (Nat.le_refl _) _).trans (HW.out.2.1.below (by simp) fun k hk => hk)).trans (h2.mono (Nat.le_trans (by simp) HW.out.2.1.size)); have HU := Lib.hid (And.intro hatu (And.intro (HJ.out.1.keep hbx) (HJ.out.2.1.below hbx (Nat.le_refl _)))); clear h1 h2 hatu hbx e9)
        | (at_builtin; refine wpList_acc rfl (.tmp 26) (.tmp 27) rfl _ _ rfl HU.out.2.1 Au 4 cu be rfl HBE.out.2.1 HU.out.1 (by have := HJ.out.2.2.2.2; rw [HBE.out.2.2, List.length_append] at this; omega) ?_; intro v3 x3 hA; have HA := Lib.hid (And.intro hA (HSRC.out.below hA.2 (Nat.le_refl _))); clear hA)
        | (at_builtin; refine wpList_acc rfl (.tmp 28) (.tmp 29) rfl _ _ rfl HA.out.1 Aj m cj f rfl HJ.out.2.2.2.1.symm (by rw [HJ.out.2.2.2.1]; exact HA.out.2) (by have := HJ.out.2.2.2.2; rw [HBE.out.2.2, List.length_append] at this; rw [List.length_append]; omega) ?_; intro v4 x4 hA; rw [List.append_assoc, ← HBE.out.2.2, ← HJ.out.2.2.1] at hA; have HA2 := Lib.hid hA; clear hA))
      go_roundw
      case rel => exact ⟨j + 1, by omega, by go_num, HA2.out⟩
      case measure => simp [intOf]; omega
    · obtain rfl : n = j := by omega
      have hres := hacc
      rw [H.out.2.2.2.2, List.take_length] at hres
      have HR := Lib.hid hres; clear hres hacc hlt
      go_wp2_with fail
      go_ret2
      exact ⟨_, rfl, HR.out⟩
def frm.val (x : FX) : Value := .slice x.2.1 x.1.length x.2.2
/-- Frames in a row of their own. -/
def FrV (w0 w' : World) (v : Value) (Fs : List (List Nat)) : Prop := ∃ xs : List FX, xs.map Prod.fst = Fs ∧ w'.ownsRow w0.heap.size 23 1 v xs.length (xs.map frm.val) ∧ (∀ x ∈ xs, At w' x.2.1 x.1.length (byteAt x.1)) ∧ Below w0.heap.size w0 w'
theorem FrV.keep {w0 w' w2 : World} {v : Value} {Fs : List (List Nat)} (h : FrV w0 w' v Fs) (hb : Below w'.heap.size w' w2) : FrV w0 w2 v Fs := by
  obtain ⟨xs, h1, h2, h3, h4⟩ := h
  exact ⟨xs, h1, own_below h2 hb, fun x hx => (h3 x hx).below hb (Nat.le_refl _), h4.trans (hb.mono h4.size)⟩
theorem frm.new_one (w : World) (v : Value) (T : TypeId) : (w.alloc (.cells #[v] T)).cell? ⟨w.heap.size, 0, none⟩ = some v := (Blk.new w T #[v]).cell 0 rfl
set_option maxHeartbeats 4000000 in
theorem frm.ref_any (A : Option Addr) (c : Nat) (L : List Nat) (w : World) (hat : At w A L.length (byteAt L)) (h1 : L.length ≤ c) (h2 : c ≤ maxLen) (hb : ∀ x ∈ L, x < 256) (hL : L.length ≤ 1000000) :
    Calls Try.prog 25 #[.slice A L.length c] w fun e w' => ∃ v, e = .returned v ∧ FrV w w' v (fr.all L) := by
  obtain ⟨i0, hi0, hz0, hz1, hz2⟩ := info_parts frm.infoBytes
  have HI := Lib.hid (And.intro hi0 (And.intro hz0 (And.intro hz1 hz2))); clear hi0 hz0 hz1 hz2
  have H := Lib.hid (And.intro hat hb); clear hat hb
  go_enter Try.func25, Try.ntmps25
  go_wp2_with fail
  go_loopw [0, 3, 4] (fun b l _ wx => ∃ (xs : List FX) (A' : Option Addr) (c' : Nat) (M : List Nat), b = .slice A' M.length c' ∧ xs.map Prod.fst ++ fr.all M = fr.all L ∧ wx.ownsRow w.heap.size 23 1 l xs.length (xs.map frm.val) ∧ (∀ x ∈ xs, ∀ wy : World, At wy A L.length (byteAt L) → At wy x.2.1 x.1.length (byteAt x.1)) ∧ (∀ wy : World, At wy A L.length (byteAt L) → At wy A' M.length (byteAt M)) ∧ (∀ x ∈ M, x < 256) ∧ M.length ≤ c' ∧ c' ≤ maxLen ∧ M.length ≤ L.length ∧ Below w.heap.size w wx ∧ 4 * xs.length + M.length ≤ L.length) (fun b _ _ _ => fr.lenOf b)
  case atStart => exact ⟨[], A, c, L, rfl, rfl, World.ownsRow_nil _ _ _ _, (fun x hx => by cases hx), (fun _ h => h), H.out.2, h1, h2, Nat.le_refl _, Below.refl _ _, by simp⟩
  case round =>
    obtain ⟨xs, A', c', M, rfl, hall, hown, hxs, hpc, hby, hc1, hc2, hML, hbw, hcnt⟩ := hrel
    have hst := fr.all_step M
    have hatw := H.out.1.below hbw (Nat.le_refl _)
    have hatM := hpc wr hatw
    obtain ⟨m, hm⟩ : ∃ m, m = M.length := ⟨_, rfl⟩
    rw [← hm] at hst hatM hc1 hML hcnt ⊢
    have HM := Lib.hid (And.intro hall (And.intro hown (And.intro hxs (And.intro hpc (And.intro hby (And.intro hbw (And.intro hst (And.intro hatM hm)))))))); clear hall hown hxs hpc hby hbw hst hatM
    have HMM := Lib.hid hm; clear hm
    have hstop : (m < 4 ∨ (4 ≤ m ∧ (131072 < wire.val (M.take 4) ∨ m < 4 + wire.val (M.take 4)))) → xs.map Prod.fst = fr.all L ∧ (∀ x ∈ xs, At wr x.2.1 x.1.length (byteAt x.1)) := fun hh => by
      refine ⟨?_, fun x hx => HM.out.2.2.1 x hx wr (H.out.1.below HM.out.2.2.2.2.2.1 (Nat.le_refl _))⟩
      have h3 := HM.out.1
      rw [HM.out.2.2.2.2.2.2.1] at h3
      rcases hh with hh | ⟨hh, hh2⟩
      · rw [if_pos hh, List.append_nil] at h3
        exact h3
      · rw [if_neg (by omega), if_pos hh2, List.append_nil] at h3
        exact h3
    have HSTOP := Lib.hid hstop; clear hstop
    by_cases h4 : m < 4
    · have d1 : decide (4 ≤ m) = false := decide_eq_false (by omega)
      have d2 : decide ((4 : Int) ≤ (m : Int)) = false := decide_eq_false (by omega)
      have HEND := Lib.hid (HSTOP.out (.inl h4)); clear h4
      go_wp2_with fail
      go_ret
      exact ⟨_, rfl, xs, HEND.out.1, HM.out.2.1, HEND.out.2, HM.out.2.2.2.2.2.1⟩
    have d1 : decide (4 ≤ m) = true := decide_eq_true (by omega)
    have d2 : decide ((4 : Int) ≤ (m : Int)) = true := decide_eq_true (by omega)
    obtain ⟨k, hk⟩ : ∃ k, k = wire.val (M.take 4) := ⟨_, rfl⟩
    have hkb : k ≤ 4294967295 := by
      have h3 := wire.val_lt (M.take 4) fun x hx => HM.out.2.2.2.2.1 x (List.mem_of_mem_take hx)
      rw [List.length_take, ← HMM.out, Nat.min_eq_left (by omega)] at h3
      have : 256 ^ 4 = 4294967296 := by decide
      omega
    have hgf : ∀ (A4 : Option Addr) (c4 : Nat), (∀ (wx : World) (L : List Nat), L.length = m → At wx A' m (byteAt L) → At wx A4 (4 - 0) (byteAt ((L.drop 0).take (4 - 0)))) → Calls Try.prog 42 #[.slice A4 4 c4] wr fun e w' => e = .returned (.int .i64 (k : Nat)) ∧ wr = w' := fun A4 c4 hat4 => by
      have hg := wire.refgetfixed_any A4 4 c4 (M.take 4) wr (by rw [List.length_take, ← HMM.out]; omega) (by
        have h3 := hat4 wr M HMM.out.symm HM.out.2.2.2.2.2.2.2.1
        rw [List.drop_zero] at h3
        exact h3) (fun x hx => HM.out.2.2.2.2.1 x (List.mem_of_mem_take hx)) (by omega) (fun h => by omega)
      rw [← hk] at hg
      exact hg
    have HG := Lib.hid (And.intro hgf hk); clear hgf hk
    go_upto_region 4 with (first
      | (show Go.wpList _ _ _ (⟨_, .slice _ (.tmp 8) _ _ _, _, _, _, _⟩ :: _) _ _; refine qs.wpList rfl (.tmp 8) none (some (.const (.int .i64 4))) rfl A' m c' 0 4 rfl (.inl ⟨rfl, rfl⟩) (.inr rfl) (by omega) (by omega) hc1 ?_; intro A4 c4 hat4 _ _ _; have HG4 := Lib.hid (HG.out.1 A4 c4 hat4); clear hat4)
      | (go_at_call 42; refine HG4.out.mono ?_; rintro en x1 ⟨rfl, h3⟩; subst h3))
    by_cases hbig : 131072 < k
    · have e1 : decide (131072 < k) = true := decide_eq_true hbig
      have e2 : decide ((131072 : Int) < (k : Int)) = true := decide_eq_true (by omega)
      have HEND := Lib.hid (HSTOP.out (.inr ⟨by omega, .inl (by rw [← HG.out.2]; exact hbig)⟩)); clear hbig
      go_wp2_with fail
      go_ret
      exact ⟨_, rfl, xs, HEND.out.1, HM.out.2.1, HEND.out.2, HM.out.2.2.2.2.2.1⟩
    have e1 : decide (131072 < k) = false := decide_eq_false hbig
    have e2 : decide ((131072 : Int) < (k : Int)) = false := decide_eq_false (by omega)
    by_cases hsh : m < 4 + k
    · have f0 : (m : Int) - 4 < (k : Int) := by omega
      have f2 : decide ((m : Int) - 4 < (k : Int)) = true := decide_eq_true f0
      have HEND := Lib.hid (HSTOP.out (.inr ⟨by omega, .inr (by rw [← HG.out.2]; exact hsh)⟩)); clear hbig hsh
      go_wp2_with fail
      go_ret
      exact ⟨_, rfl, xs, HEND.out.1, HM.out.2.1, HEND.out.2, HM.out.2.2.2.2.2.1⟩
    have f0 : ¬ (m : Int) - 4 < (k : Int) := by omega
    have f2 : decide ((m : Int) - 4 < (k : Int)) = false := decide_eq_false f0
    obtain ⟨f, hf⟩ : ∃ f, f = (M.drop 4).take k := ⟨_, rfl⟩
    have hall2 : fr.all M = f :: fr.all (M.drop (4 + k)) := by
      have h3 := HM.out.2.2.2.2.2.2.1
      rw [if_neg (by omega), ← HG.out.2, if_neg (by omega), ← hf] at h3
      exact h3
    have hfl : f.length = k := by rw [hf, List.length_take, List.length_drop, ← HMM.out]; omega
    obtain ⟨A1, hs1, hat1⟩ := frm.slice A' m c' 4 (4 + k) (some (.int .i64 4)) (some (.int .i64 ((4 + k : Nat) : Int))) (.inr rfl) (.inr rfl) (by omega) (by omega) hc1
    obtain ⟨A2, hs2, hat2⟩ := frm.slice A' m c' (4 + k) m (some (.int .i64 ((4 + k : Nat) : Int))) none (.inr rfl) (.inl ⟨rfl, rfl⟩) (by omega) (Nat.le_refl _) hc1
    rw [Nat.add_sub_cancel_left] at hs1 hat1
    rw [show ((4 + k : Nat) : Int) = 4 + (k : Int) by omega] at hs1 hs2
    have hdl : (M.drop (4 + k)).length = m - (4 + k) := by rw [List.length_drop, ← HMM.out]
    have hp1 : ∀ wy : World, At wy A L.length (byteAt L) → At wy A1 f.length (byteAt f) := fun wy hy => by
      have h3 := hat1 wy M HMM.out.symm (by rw [HMM.out]; exact HM.out.2.2.2.1 wy hy)
      rw [← hf] at h3
      rw [hfl]
      exact h3
    have hp2 : ∀ wy : World, At wy A L.length (byteAt L) → At wy A2 (M.drop (4 + k)).length (byteAt (M.drop (4 + k))) := fun wy hy => by
      have h3 := hat2 wy M HMM.out.symm (by rw [HMM.out]; exact HM.out.2.2.2.1 wy hy)
      rw [List.take_of_length_le (by rw [hdl]; exact Nat.le_refl _)] at h3
      rw [hdl]
      exact h3
    obtain ⟨Al, cl, hlv, -, -⟩ := own_at HM.out.2.1
    have HN := Lib.hid (And.intro hall2 (And.intro hfl (And.intro hp1 (And.intro hp2 hdl)))); clear hall2 hfl hp1 hp2 hdl hat1 hat2 hf
    subst hlv
    obtain ⟨q, hq⟩ : ∃ q, q = xs.length := ⟨_, rfl⟩
    have howq := HM.out.2.1
    rw [← hq] at howq ⊢
    have hval : frm.val (f, (A1, c' - 4)) = .slice A1 k (c' - 4) := by unfold frm.val; dsimp only; rw [HN.out.2.1]
    have hszw : w.heap.size ≤ wr.heap.size := HM.out.2.2.2.2.2.1.size
    have hq5 : q ≤ 1000000 := by omega
    have HQ := Lib.hid (And.intro howq (And.intro hq (And.intro hval hszw))); clear howq hq hval hszw
    go_wp2_with (at_builtin; go_loud (refine wpList_append_own_at _ rfl (.tmp 21) (.tmp 26) 49 rfl w.heap.size 23 i0 _ 1 24 Try.underlying49 HI.out.1 HI.out.2.1 HI.out.2.2.1 HI.out.2.2.2 rfl (by decide) (.slice Al q cl) q (xs.map frm.val) rfl ((Chg.alloc wr _ (fun _ => False)).own HQ.out.1 fun _ _ e => e) ⟨wr.heap.size, 0, none⟩ 1 1 [.slice A1 k (c' - 4)] rfl rfl (pq.new_one wr (.slice A1 k (c' - 4)) 23 wr.heap.size rfl) (by simp [Value.oneCell']) (by unfold maxLen; omega) (by omega) (Nat.le_trans HQ.out.2.2.2 (by simp)) ?_); intro v2 w9 q1 q2 _ q3; have HA := Lib.hid (And.intro q1 q2); clear q1 q2 q3)
    have hbw9 : Below w.heap.size w w9 := HM.out.2.2.2.2.2.1.trans ((((Chg.alloc wr (.cells #[.slice A1 k (c' - 4)] 23) (fun g => (Value.slice Al q cl).ownBlock = some g)).trans (Chg.grown HA.out.2) fun _ _ e => e)).below HQ.out.2.2.2 fun g hg => (HQ.out.1.lt g hg).1)
    have hown9 : w9.ownsRow w.heap.size 23 1 v2 (xs ++ [((f, (A1, c' - 4)) : FX)]).length ((xs ++ [((f, (A1, c' - 4)) : FX)]).map frm.val) := by
      have h3 := HA.out.1
      rw [List.length_append, List.map_append, List.map_cons, List.map_nil, HQ.out.2.2.1, ← HQ.out.2.1]
      exact h3
    have HZ := Lib.hid (And.intro hbw9 hown9); clear hbw9 hown9
    go_wp2_with fail
    go_roundw
    case rel =>
      refine ⟨xs ++ [((f, (A1, c' - 4)) : FX)], A2, c' - (4 + k), M.drop (4 + k), by rw [HN.out.2.2.2.2], ?_, HZ.out.2, fun x hx => ?_, HN.out.2.2.2.1, fun x hx => HM.out.2.2.2.2.1 x (List.mem_of_mem_drop hx), by rw [HN.out.2.2.2.2]; omega, by omega, by rw [HN.out.2.2.2.2]; omega, HZ.out.1, ?_⟩
      · have h3 := HM.out.1
        rw [HN.out.1] at h3
        rw [List.map_append, List.append_assoc]
        exact h3
      · rcases List.mem_append.1 hx with h3 | h3
        · exact HM.out.2.2.1 x h3
        · rw [List.mem_singleton.1 h3]
          exact HN.out.2.2.1
      · rw [List.length_append, HN.out.2.2.2.2, List.length_singleton]
        omega
    case measure => simp [fr.lenOf]; omega
end Go.Proofs.Ytimcpbbcealkiaa

/- commits: written, Record, GenRecord (chapter 18). -/
import Derived.BigQuiet
import Derived.Test.YtkkpbnhagobhmaaCmC
namespace Go.Proofs.Ytkkpbnhagobhmaa
open Go.RowKit
set_option maxRecDepth 20000
/-- A record, handed over. -/
def cm.RecV (w : World) (v : Value) (r : Rec) : Prop := ∃ k u, v = .agg #[.int .i64 r.off, .int .i64 r.time, .bool r.hasKey, k, .bool r.hasVal, u] ∧ BytesV w k r.key ∧ BytesV w u r.val
theorem cm.RecV.below {w w' : World} {v : Value} {r : Rec} {B : Nat} (h : cm.RecV w v r) (hb : Below B w w') (hB : w.heap.size ≤ B) : cm.RecV w' v r := by
  obtain ⟨k, u, h1, h2, h3⟩ := h
  exact ⟨k, u, h1, h2.below hb hB, h3.below hb hB⟩
theorem cm.nil_bytes (w : World) : BytesV w (.slice none 0 0) [] := ⟨none, 0, rfl, At.none0 rfl, Nat.le_refl _, Nat.zero_le _, fun _ h => by cases h⟩
theorem cm.own_bv {w : World} {base : Nat} {v : Value} {L : List Nat} (h : w.ownsRow base 5 1 v L.length (u8s L)) (hl : ∀ x ∈ L, x < 256) : BytesV w v L := by
  obtain ⟨A, c, rfl, hc, -, hat⟩ := own_bytes h
  exact ⟨A, c, rfl, hat, hc, own_cap h, hl⟩
def cm.zero : Rec := ⟨0, 0, false, [], false, []⟩
theorem cm.zero_v (w : World) : cm.RecV w (.agg #[.int .i64 0, .int .i64 0, .bool false, .slice none 0 0, .bool false, .slice none 0 0]) cm.zero := ⟨_, _, rfl, cm.nil_bytes w, cm.nil_bytes w⟩
/-- A time that may be. -/
def cm.now (n : Int) : Bool := decide (0 ≤ n) && decide (n ≤ 1125899906842624)
def CEnt.told (e : CEnt) (now : Int) : Rec := ⟨0, now, true, e.key, true, num.put e.off⟩
def cm.gkey (g : ByteArray) : List Nat := cm.text ⟨#[103]⟩ ++ cm.text g
def cm.grec (g : ByteArray) (n now : Int) : Rec := ⟨0, now, true, cm.gkey g, true, num.put n⟩
theorem cm.now_lo {n : Int} (h : n < 0) : cm.now n = false := by unfold cm.now; rw [decide_eq_false (by omega)]; rfl
theorem cm.now_hi {n : Int} (h : 1125899906842624 < n) : cm.now n = false := by unfold cm.now; rw [decide_eq_false (p := n ≤ 1125899906842624) (by omega), Bool.and_false]
theorem cm.now_ok {n : Int} (h0 : ¬ n < 0) (h : ¬ 1125899906842624 < n) : cm.now n = true := by unfold cm.now; rw [decide_eq_true (p := 0 ≤ n) (by omega), decide_eq_true (p := n ≤ 1125899906842624) (by omega)]; rfl
theorem cm.written_any (kv : Value) (K : List Nat) (n now : Int) (w : World) (hk : BytesV w kv K) (h1 : -9223372036854775808 ≤ n) (h2 : n ≤ 9223372036854775807) : Calls Try.prog 44 #[kv, .int .i64 n, .int .i64 now] w fun en w' => (∃ v, en = .returned (.tuple #[v, .int .i64 (if cm.now now = true then 0 else 1)]) ∧ cm.RecV w' v (if cm.now now = true then ⟨0, now, true, K, true, num.put n⟩ else cm.zero)) ∧ Below w.heap.size w w' := by
  obtain ⟨A, c, rfl, hk⟩ := hk
  obtain ⟨R, hR⟩ : ∃ R : Int, R = if cm.now now = true then 0 else 1 := ⟨_, rfl⟩
  obtain ⟨X, hX⟩ : ∃ X : Rec, X = if cm.now now = true then ⟨0, now, true, K, true, num.put n⟩ else cm.zero := ⟨_, rfl⟩
  rw [← hR, ← hX]
  have hno : cm.now now = false → R = 1 ∧ X = cm.zero := fun h => by rw [h] at hR hX; exact ⟨hR, hX⟩
  have hyes : cm.now now = true → R = 0 ∧ X = ⟨0, now, true, K, true, num.put n⟩ := fun h => by rw [h] at hR hX; exact ⟨hR, hX⟩
  clear hR hX
  have HRX := Lib.hid (And.intro hno hyes); clear hno hyes
  obtain ⟨m, hm⟩ : ∃ m, m = K.length := ⟨_, rfl⟩
  rw [← hm]
  obtain ⟨b0, hb0⟩ : ∃ b, b = w.heap.size := ⟨_, rfl⟩
  obtain ⟨w1, hw1⟩ : ∃ w1, w1 = w.alloc (.cells #[.int .i64 0, .int .i64 0, .bool false, .slice none 0 0, .bool false, .slice none 0 0] 37) := ⟨_, rfl⟩
  have hk1 : Blk w1 b0 37 #[.int .i64 0, .int .i64 0, .bool false, .slice none 0 0, .bool false, .slice none 0 0] := by rw [hw1, hb0]; exact Blk.new _ _ _
  have hbl1 : Below w.heap.size w w1 := by rw [hw1]; exact (Below.refl _ _).alloc (Nat.le_refl _) _
  have H := Lib.hid (And.intro hk (And.intro hm (And.intro hb0 (And.intro hk1 hbl1)))); clear hk hm hk1 hbl1
  go_enter Try.func44, Try.ntmps44
  go_upto_region 1 with fail
  rw [← hw1, ← hb0]
  clear hw1 hb0
  have hcase : (now < 0 ∨ (¬ now < 0 ∧ 1125899906842624 < now)) ∨ (¬ now < 0 ∧ ¬ 1125899906842624 < now) := by omega
  rcases hcase with hbad | ⟨d1, d2⟩
  · have hno : cm.now now = false := hbad.elim cm.now_lo fun h => cm.now_hi h.2
    have HX := Lib.hid (HRX.out.1 hno); clear hno
    rcases hbad with d1 | ⟨d1, d2⟩
    · have e1 : decide (now < 0) = true := decide_eq_true d1
      go_wp2_with (refine wpList_store_row rfl 37 (.tmp 6) (.tmp 17) rfl b0 #[.int .i64 0, .int .i64 0, .bool false, .slice none 0 0, .bool false, .slice none 0 0] rfl rfl 37 _ H.out.2.2.2.1 cm.info_rec rfl (by simp [Value.oneCell']) ?_)
      have hz2 := H.out.2.2.2.1.row #[.int .i64 0, .int .i64 0, .bool false, .slice none 0 0, .bool false, .slice none 0 0]
      have hb2 := H.out.2.2.2.2.trans ((Chg.setRow w1 b0 #[.int .i64 0, .int .i64 0, .bool false, .slice none 0 0, .bool false, .slice none 0 0]).below H.out.2.2.2.2.size fun k hk => by have hk : k = b0 := hk; have := H.out.2.2.1; omega)
      refine bodyPost_ret (res_cell2 rfl _ _ b0 _ _ rfl hz2 Try.underlying37 rfl cm.info_rec) rfl ?_
      refine ⟨⟨_, by rw [HX.out.1]; rfl, ?_⟩, hb2⟩
      rw [HX.out.2]
      exact cm.zero_v _
    · have e1 : decide (now < 0) = false := decide_eq_false d1
      have e2 : decide (1125899906842624 < now) = true := decide_eq_true d2
      go_wp2_with (refine wpList_store_row rfl 37 (.tmp 6) (.tmp 17) rfl b0 #[.int .i64 0, .int .i64 0, .bool false, .slice none 0 0, .bool false, .slice none 0 0] rfl rfl 37 _ H.out.2.2.2.1 cm.info_rec rfl (by simp [Value.oneCell']) ?_)
      have hz2 := H.out.2.2.2.1.row #[.int .i64 0, .int .i64 0, .bool false, .slice none 0 0, .bool false, .slice none 0 0]
      have hb2 := H.out.2.2.2.2.trans ((Chg.setRow w1 b0 #[.int .i64 0, .int .i64 0, .bool false, .slice none 0 0, .bool false, .slice none 0 0]).below H.out.2.2.2.2.size fun k hk => by have hk : k = b0 := hk; have := H.out.2.2.1; omega)
      refine bodyPost_ret (res_cell2 rfl _ _ b0 _ _ rfl hz2 Try.underlying37 rfl cm.info_rec) rfl ?_
      refine ⟨⟨_, by rw [HX.out.1]; rfl, ?_⟩, hb2⟩
      rw [HX.out.2]
      exact cm.zero_v _
  · have HX := Lib.hid (HRX.out.2 (cm.now_ok d1 d2))
    have e1 : decide (now < 0) = false := decide_eq_false d1
    have e2 : decide (1125899906842624 < now) = false := decide_eq_false d2
    go_upto_region 4 with fail
    clear e1 e2
    obtain ⟨p, hp⟩ : ∃ p, p = w1.heap.size := ⟨_, rfl⟩
    obtain ⟨wB, hwB⟩ : ∃ wB, wB = w1.alloc (.cells #[.slice none 0 0, .bool false] 96) := ⟨_, rfl⟩
    rw [← hwB, ← hp]
    have hwr : WrL wB p p [] wB := by rw [hwB, hp]; exact WrL.start _ rfl
    have hc3B : Chg w1 wB (fun _ => False) := by rw [hwB]; exact Chg.alloc _ _ _
    have hkB := hc3B.blk H.out.2.2.2.1 fun q => q
    have hbxp : b0 < p := by rw [hp]; exact H.out.2.2.2.1.lt
    have hbB : Below w.heap.size w wB := H.out.2.2.2.2.trans (hc3B.below H.out.2.2.2.2.size fun _ q => q.elim)
    have hwp : w.heap.size ≤ p := by rw [hp]; exact H.out.2.2.2.2.size
    have HW := Lib.hid (And.intro hkB (And.intro hbxp (And.intro hbB hwp))); clear hkB hbxp hbB hwp hc3B hwB hp
    have HN := Lib.hid (hwr.num (by simp) n h1 h2); clear hwr
    go_wp2_with fail
    refine HN.out.mono ?_
    rintro en w2 ⟨rfl, hn2⟩
    have HD := Lib.hid (And.intro (hn2.done (by have := (num.put_bd n).2; simp; omega)) hn2.2.1); clear hn2
    go_wp2_with fail
    refine HD.out.1.mono ?_
    rintro en w3 ⟨⟨u, rfl, hown⟩, hb3⟩
    rw [List.nil_append] at hown
    have hu : BytesV w3 u (num.put n) := cm.own_bv hown (num.put_byte n h1 h2)
    have hc3 : Chg wB w3 (fun k => p ≤ k) := HD.out.2.trans (chg_of (P := fun _ => False) hb3) fun _ _ q => q.elim
    have hk3 := hc3.blk HW.out.1 (Nat.not_le.2 HW.out.2.1)
    have hb3' : Below w.heap.size w w3 := HW.out.2.2.1.trans (hc3.below HW.out.2.2.1.size fun k q => Nat.le_trans HW.out.2.2.2 q)
    obtain ⟨Au, cu, rfl, hu⟩ := hu
    have hlo : ∀ b off, Au = some ⟨b, off, none⟩ → b0 < b := fun b off e => by have := (hown.lt b (by rw [e]; rfl)).1; have := HD.out.2.size; have := HW.out.1.lt; omega
    obtain ⟨mu, hmu⟩ : ∃ m, m = (num.put n).length := ⟨_, rfl⟩
    rw [← hmu]
    have H3 := Lib.hid (And.intro hu (And.intro hmu (And.intro hk3 hb3'))); have HLO := Lib.hid hlo; clear hu hmu hk3 hb3' hc3 hb3 hown hlo
    clear h1 h2 d1 d2
    go_wp2_with (refine wpList_store_row rfl 37 (.tmp 6) (.tmp 27) rfl b0 #[.int .i64 0, .int .i64 now, .bool true, .slice A m c, .bool true, .slice Au mu cu] rfl rfl 37 _ H3.out.2.2.1 cm.info_rec rfl (by simp [Value.oneCell']) ?_)
    have hz2 := H3.out.2.2.1.row #[.int .i64 0, .int .i64 now, .bool true, .slice A m c, .bool true, .slice Au mu cu]
    have hc4 := Chg.setRow w3 b0 #[.int .i64 0, .int .i64 now, .bool true, .slice A m c, .bool true, .slice Au mu cu]
    have hb2 := H3.out.2.2.2.trans (hc4.below H3.out.2.2.2.size fun k hk => by have hk : k = b0 := hk; have := H.out.2.2.1; omega)
    have hu2 := hc4.at' H3.out.1.1 (fun _ b off e q => by have q : b = b0 := q; have := HLO.out b off e; omega)
    refine bodyPost_ret (res_cell2 rfl _ _ b0 _ _ rfl hz2 Try.underlying37 rfl cm.info_rec) rfl ?_
    refine ⟨⟨_, by rw [HX.out.1]; rfl, ?_⟩, hb2⟩
    rw [HX.out.2]
    refine ⟨_, _, rfl, ?_, ?_⟩
    · exact ⟨A, c, by show Value.slice A m c = Value.slice A K.length c; rw [H.out.2.1], H.out.1.1.below hb2 (Nat.le_refl _), H.out.1.2⟩
    · exact ⟨Au, cu, by show Value.slice Au mu cu = Value.slice Au (num.put n).length cu; rw [H3.out.2.1], hu2, H3.out.1.2⟩
section
variable {P : Program} {ops : Array Oper} {S : World → Prop}
theorem cm.quiet_of {Q : Act → Prop} {o : Oper} {rest : List Oper} {a : Act} (hg : o.guard = none) (v : Value) (h : ∀ w, S w → (execOp a.eval o).run P w = .ok (.value v) w) (hk : wpQuiet P ops S Q rest (a.put o.dst v)) : wpQuiet P ops S Q (o :: rest) a := by
  unfold wpQuiet
  rw [if_pos (by simp [Region.wanted, hg])]
  refine ⟨v, fun w hw => ?_, hk⟩
  unfold Oper.quietAt
  rw [h w hw]
  exact ⟨rfl, rfl⟩
/-- A whole struct is loaded, in a quiet region. -/
theorem cm.quiet_row {Q : Act → Prop} {o : Oper} {rest : List Oper} {a : Act} (hgd : o.guard = none) (ty : TypeId) (x : Operand) (ho : o.op = .load ty x) (g : Nat) (hx : a.eval x = .pointer (some ⟨g, 0, none⟩)) (T : TypeId) (cs : Array Value) (d : TypeDesc)
    (hg : ∀ w, S w → Blk w g T cs) (hu : P.underlying ty = some d) (hd : (match d with | .struct _ | .array _ _ => true | _ => false) = true) (hi : (P.info? ty).map (·.size) = some cs.size) (hk : wpQuiet P ops S Q rest (a.put o.dst (.agg cs))) : wpQuiet P ops S Q (o :: rest) a := by
  refine cm.quiet_of hgd (.agg cs) (fun w hw => ?_) hk
  unfold execOp
  simp only [ho, hx, Instr.loadAt, Instr.sureAddr, Sem.run_bind, Sem.run_pure, Result.andThen_ok, run_loadVar_row w g T ty cs (0, 0) d (hg w hw) hu hd hi]
end
theorem cm.text_byte (s : ByteArray) (h : s.size ≤ 100) : ∀ x ∈ cm.text s, x < 256 := fun x hx => by
  unfold cm.text at hx
  rcases List.mem_append.1 hx with h1 | h1
  · exact num.put_byte _ (by omega) (by omega) x h1
  · exact strNats_lt s x h1
theorem CEnt.key_byte {e : CEnt} (hg : e.grp.size ≤ 100) (ht : e.top.size ≤ 100) (h1 : -9223372036854775808 ≤ e.part) (h2 : e.part ≤ 9223372036854775807) : ∀ x ∈ e.key, x < 256 := fun x hx => by
  unfold CEnt.key at hx
  rcases List.mem_append.1 hx with h3 | h3
  · rcases List.mem_append.1 h3 with h3 | h3
    · rcases List.mem_append.1 h3 with h3 | h3
      · exact cm.text_byte _ (by decide) x h3
      · exact cm.text_byte _ hg x h3
    · exact cm.text_byte _ ht x h3
  · exact num.put_byte _ h1 h2 x h3
theorem CEnt.ok_place {e : CEnt} (h : e.ok = true) : e.grp.size ≤ 20 ∧ e.top.size ≤ 20 ∧ 0 ≤ e.part ∧ e.part ≤ 999 ∧ 0 ≤ e.off ∧ e.off ≤ 4611686018427387904 := by
  unfold CEnt.ok cm.place cm.topic at h
  simp only [Bool.and_eq_true, decide_eq_true_eq] at h
  omega
def cm.recPost (w : World) (X : Rec) (c : Int) (en : Ending) (w' : World) : Prop := (∃ v, en = .returned (.tuple #[v, .int .i64 c]) ∧ cm.RecV w' v X) ∧ Below w.heap.size w w'
/-- What Record answers. -/
def CEnt.may (e : CEnt) (now : Int) : Bool := e.ok && cm.now now
theorem cm.record_any (e : CEnt) (now : Int) (w : World) (h : e.fit) : Calls Try.prog 23 #[.agg e.cells, .int .i64 now] w (cm.recPost w (if e.may now = true then e.told now else cm.zero) (if e.may now = true then 0 else 1)) := by
  have hck := fun wx => cm.check_any e wx h
  have hkey := fun (wx : World) (h0 : e.ok = true) => have h1 := CEnt.ok_place h0; cm.key_any e wx (by omega) (by omega) (by omega) (by omega)
  have hwr := fun (kv : Value) (wx : World) (h0 : e.ok = true) (hk : BytesV wx kv e.key) => have h1 := CEnt.ok_place h0; cm.written_any kv e.key e.off now wx hk (by omega) (by omega)
  have hbyte : e.ok = true → ∀ x ∈ e.key, x < 256 := fun h0 => have h1 := CEnt.ok_place h0; CEnt.key_byte (by omega) (by omega) (by omega) (by omega)
  obtain ⟨R, hR⟩ : ∃ R : Int, R = if e.may now = true then 0 else 1 := ⟨_, rfl⟩
  obtain ⟨X, hX⟩ : ∃ X : Rec, X = if e.may now = true then e.told now else cm.zero := ⟨_, rfl⟩
  rw [← hR, ← hX]
  have hno : e.ok = false → R = 1 ∧ X = cm.zero := fun h => by unfold CEnt.may at hR hX; rw [h] at hR hX; exact ⟨hR, hX⟩
  have hyes : e.ok = true → R = (if cm.now now = true then 0 else 1) ∧ X = (if cm.now now = true then ⟨0, now, true, e.key, true, num.put e.off⟩ else cm.zero) := fun h => by unfold CEnt.may at hR hX; rw [h, Bool.true_and] at hR hX; exact ⟨hR, hX⟩
  clear hR hX h
  obtain ⟨ok, hok⟩ : ∃ b, b = e.ok := ⟨_, rfl⟩
  rw [← hok] at hck hkey hwr hno hyes hbyte
  obtain ⟨C, hC⟩ : ∃ C : Int, C = if ok = true then 0 else 1 := ⟨_, rfl⟩
  rw [← hC] at hck
  clear hok
  obtain ⟨K, hK⟩ : ∃ K, K = e.key := ⟨_, rfl⟩
  rw [← hK] at hkey hwr hbyte hyes
  clear hK
  obtain ⟨g, t, p, o⟩ := e
  unfold CEnt.cells at hck hkey ⊢
  obtain ⟨b0, hb0⟩ : ∃ b, b = w.heap.size := ⟨_, rfl⟩
  obtain ⟨w1, hw1⟩ : ∃ w1, w1 = (w.alloc (.cells #[.string g, .string t, .int .i64 p, .int .i64 o] 42)).alloc (.cells #[.int .i64 0, .int .i64 0, .bool false, .slice none 0 0, .bool false, .slice none 0 0] 37) := ⟨_, rfl⟩
  have hk1 : Blk w1 b0 42 #[.string g, .string t, .int .i64 p, .int .i64 o] := by rw [hw1, hb0]; exact (Chg.alloc _ _ (fun _ => False)).blk (Blk.new _ _ _) fun q => q
  have hz1 : Blk w1 (b0 + 1) 37 #[.int .i64 0, .int .i64 0, .bool false, .slice none 0 0, .bool false, .slice none 0 0] := by rw [hw1, hb0]; exact heap_alloc2_new w _ _
  have hb1 : Below w.heap.size w w1 := by rw [hw1]; exact ((Below.refl _ _).alloc (Nat.le_refl _) _).alloc (by simp) _
  have H := Lib.hid (And.intro hck (And.intro hkey (And.intro hwr (And.intro hno (And.intro hyes (And.intro hbyte (And.intro hk1 (And.intro hz1 (And.intro hb1 hb0))))))))); clear hck hkey hwr hno hyes hbyte hk1 hz1 hb1
  go_enter Try.func23, Try.ntmps23
  go_upto_region 1 with fail
  rw [← hw1, ← hb0]
  clear hw1 hb0
  go_wp2_with (first
    | (show Go.wpList _ _ _ (⟨_, .load _ (.tmp 2), _, _, _, _⟩ :: _) _ _; refine wpList_load_row rfl 42 (.tmp 2) rfl b0 rfl 42 #[.string g, .string t, .int .i64 p, .int .i64 o] (0, 0) _ H.out.2.2.2.2.2.2.1 Try.underlying42 rfl cm.info_entry ?_)
    | fail)
  refine (H.out.1 w1).mono ?_
  rintro en w2 ⟨rfl, h2⟩
  have hc2 : Chg w1 w2 (fun _ => False) := chg_of h2
  have hk2 := hc2.blk H.out.2.2.2.2.2.2.1 fun q => q
  have hz2 := hc2.blk H.out.2.2.2.2.2.2.2.1 fun q => q
  have hb2 := H.out.2.2.2.2.2.2.2.2.1.trans (h2.mono H.out.2.2.2.2.2.2.2.2.1.size)
  have H2 := Lib.hid (And.intro hk2 (And.intro hz2 hb2)); clear hk2 hz2 hb2 hc2 h2
  cases ok with
  | false =>
    obtain rfl : C = 1 := by rw [hC]; rfl
    clear hC
    have HX := Lib.hid (H.out.2.2.2.1 rfl)
    go_wp2_with (refine wpList_store_row rfl 37 (.tmp 4) (.tmp 9) rfl (b0 + 1) #[.int .i64 0, .int .i64 0, .bool false, .slice none 0 0, .bool false, .slice none 0 0] rfl rfl 37 _ H2.out.2.1 cm.info_rec rfl (by simp [Value.oneCell']) ?_)
    have hz3 := H2.out.2.1.row #[.int .i64 0, .int .i64 0, .bool false, .slice none 0 0, .bool false, .slice none 0 0]
    have hb3 := H2.out.2.2.trans ((Chg.setRow w2 (b0 + 1) #[.int .i64 0, .int .i64 0, .bool false, .slice none 0 0, .bool false, .slice none 0 0]).below H2.out.2.2.size fun k hk => by have hk : k = b0 + 1 := hk; have := H.out.2.2.2.2.2.2.2.2.2; omega)
    refine bodyPost_ret (res_cell2 rfl _ _ (b0 + 1) _ _ rfl hz3 Try.underlying37 rfl cm.info_rec) rfl ?_
    refine ⟨⟨_, by rw [HX.out.1]; rfl, ?_⟩, hb3⟩
    rw [HX.out.2]
    exact cm.zero_v _
  | true =>
    obtain rfl : C = 0 := by rw [hC]; rfl
    clear hC
    have HX := Lib.hid (H.out.2.2.2.2.1 rfl)
    have HKEY := Lib.hid fun wx => H.out.2.1 wx rfl
    have HWR := Lib.hid fun kv wx hk => by have h := H.out.2.2.1 kv wx rfl hk; rw [← HX.out.1, ← HX.out.2] at h; exact h
    have HBY := Lib.hid (H.out.2.2.2.2.2.1 rfl)
    have HBB := Lib.hid H.out.2.2.2.2.2.2.2.2.2
    clear H
    go_upto_region 3 with fail
    have hkd : ∀ x : Later w2 (fun k => b0 < k), Blk x.1 b0 42 #[.string g, .string t, .int .i64 p, .int .i64 o] := fun x => x.2.blk H2.out.1 (Nat.lt_irrefl _)
    have z3 : ∀ x : Later w2 (fun k => b0 < k), x.1.cell? ⟨b0, 3, none⟩ = some (.int .i64 o) := fun x => (hkd x).cell 3 rfl
    have HKD := Lib.hid hkd; clear hkd
    have hS0 : later w2 (fun k => b0 < k) w2.drew := later_of ((Chg.refl _ _).drew)
    refine wp_plan (S := fun w0 => ∃ x : Later w2 (fun k => b0 < k), w0 = x.1) (by kernel_rfl) hS0 ?_
    intro hS' K5 hK5
    have HS := Lib.hid hS'; clear hS' hS0
    refine plan_group [true, false, true, true, true] [0, 2, 3, 4] 6 (by dsimp only [sel]) (by rfl) rfl (by kernel_rfl) (by kernel_rfl) HS.out ?_
    refine cm.quiet_row rfl 42 (.tmp 2) rfl b0 rfl 42 #[.string g, .string t, .int .i64 p, .int .i64 o] _ (fun w0 ⟨x, hx⟩ => hx ▸ HKD.out x) Try.underlying42 rfl cm.info_entry ?_
    go_simp
    (repeat go_big_quiet_step (fail)); refine wpQuiet_nil ?_
    clear z3
    refine plan_one [false, true] 1 5 (by dsimp only [sel]) (by rfl) rfl (by kernel_rfl) ?_; intro K0 hK0
    go_wp2_with fail
    refine (HKEY.out w2.drew).mono ?_
    rintro en w3 ⟨⟨kv, rfl, hown⟩, h3⟩
    have hkv : BytesV w3 kv K := cm.own_bv hown HBY.out
    have hc3 : Chg w2 w3 (fun _ => False) := (Chg.drew (Chg.refl _ _)).trans (chg_of h3) fun _ _ q => q
    have hl3 : later w2 (fun k => b0 < k) w3 := later_of (hc3.mono fun _ _ q => q.elim)
    go_wp2_with fail
    refine ⟨by first | exact hl3 | exact fun _ => hl3, ?_⟩
    have H3 := Lib.hid (And.intro hkv hc3); clear hkv hc3 h3 hown hl3
    refine plan_one [false, false, false, false, false, true] 5 4 (by dsimp only [sel]) (by rfl) rfl (by kernel_rfl) ?_; intro K1 hK1
    go_wp2_with fail
    refine (HWR.out kv w3 H3.out.1).mono ?_
    rintro en w4 ⟨⟨v, rfl, hv⟩, h4⟩
    have hc4 : Chg w2 w4 (fun _ => False) := H3.out.2.trans (chg_of h4) fun _ _ q => q
    have hl4 : later w2 (fun k => b0 < k) w4 := later_of (hc4.mono fun _ _ q => q.elim)
    go_wp2_with fail
    refine ⟨by first | exact hl4 | exact fun _ => hl4, ?_⟩
    obtain ⟨k, u, rfl, hk, hu⟩ := hv
    obtain ⟨Ak, ck, rfl, hk⟩ := hk
    obtain ⟨Au, cu, rfl, hu⟩ := hu
    obtain ⟨nk, hnk⟩ : ∃ n, n = X.key.length := ⟨_, rfl⟩
    obtain ⟨nu, hnu⟩ : ∃ n, n = X.val.length := ⟨_, rfl⟩
    obtain ⟨xo, hxo⟩ : ∃ n, n = X.off := ⟨_, rfl⟩
    obtain ⟨xt, hxt⟩ : ∃ n, n = X.time := ⟨_, rfl⟩
    obtain ⟨xk, hxk⟩ : ∃ n, n = X.hasKey := ⟨_, rfl⟩
    obtain ⟨xv, hxv⟩ : ∃ n, n = X.hasVal := ⟨_, rfl⟩
    rw [← hnk, ← hnu, ← hxo, ← hxt, ← hxk, ← hxv]
    have H4 := Lib.hid (And.intro hk (And.intro hu (And.intro hc4 (And.intro h4 (And.intro hnk (And.intro hnu (And.intro hxo (And.intro hxt (And.intro hxk hxv))))))))); clear hk hu hc4 h4 hl4 hnk hnu hxo hxt hxk hxv
    refine plan_group [false, false, false, false, false, false, true, true] [6, 7] 2 (by dsimp only [sel]) (by rfl) rfl (by kernel_rfl) (by kernel_rfl) (later_of (H4.out.2.2.1.mono fun _ _ q => q.elim)) ?_
    (repeat go_big_quiet_step (fail)); refine wpQuiet_nil ?_
    refine plan_one [false, false, false, false, false, false, false, false, true] 8 1 (by dsimp only [sel]) (by rfl) rfl (by kernel_rfl) ?_; intro K6 hK6
    have hz4 := H4.out.2.2.1.blk H2.out.2.1 fun q => q
    go_wp2_with (refine wpList_store_row rfl 37 (.tmp 4) (.tmp 16) rfl (b0 + 1) #[.int .i64 xo, .int .i64 xt, .bool xk, .slice Ak nk ck, .bool xv, .slice Au nu cu] rfl rfl 37 _ hz4 cm.info_rec rfl (by simp [Value.oneCell']) ?_)
    have hc5 := Chg.setRow w4 (b0 + 1) #[.int .i64 xo, .int .i64 xt, .bool xk, .slice Ak nk ck, .bool xv, .slice Au nu cu]
    have hz5 := hz4.row #[.int .i64 xo, .int .i64 xt, .bool xk, .slice Ak nk ck, .bool xv, .slice Au nu cu]
    have hno : ∀ (j : Nat) (u : Value) (L : List Nat), (#[.int .i64 0, .int .i64 0, .bool false, .slice none 0 0, .bool false, .slice none 0 0] : Array Value)[j]? = some u → u ≠ byteAt L 0 := fun j u L hj => by
      have hj6 : j < 6 := by
        have := (Array.getElem?_eq_some_iff.1 hj).1
        simpa using this
      unfold byteAt
      rcases (by omega : j = 0 ∨ j = 1 ∨ j = 2 ∨ j = 3 ∨ j = 4 ∨ j = 5) with rfl | rfl | rfl | rfl | rfl | rfl <;> (injection hj with hj; rw [← hj]; intro h; cases h)
    have hk5 := hc5.at' H4.out.1.1 fun hn b off e q => H4.out.1.1.not_blk hn hz4 (fun j u hj => hno j u _ hj) b off e q
    have hu5 := hc5.at' H4.out.2.1.1 fun hn b off e q => H4.out.2.1.1.not_blk hn hz4 (fun j u hj => hno j u _ hj) b off e q
    have hl5 : later w2 (fun k => b0 < k) (w4.setRow (b0 + 1) #[.int .i64 xo, .int .i64 xt, .bool xk, .slice Ak nk ck, .bool xv, .slice Au nu cu]) := later_of ((H4.out.2.2.1.mono (Q := fun k => b0 < k) fun _ _ q => q.elim).trans hc5 fun k _ q => by have q : k = b0 + 1 := q; show b0 < k; omega)
    have hb5 : Below w.heap.size w (w4.setRow (b0 + 1) #[.int .i64 xo, .int .i64 xt, .bool xk, .slice Ak nk ck, .bool xv, .slice Au nu cu]) := (H2.out.2.2.trans (H4.out.2.2.1.below H2.out.2.2.size fun _ q => q.elim)).trans (hc5.below (Nat.le_trans H2.out.2.2.size H4.out.2.2.1.size) fun k q => by have q : k = b0 + 1 := q; have := HBB.out; omega)
    have H5 := Lib.hid (And.intro hz5 (And.intro hk5 (And.intro hu5 hb5))); clear hz5 hk5 hu5 hb5 hno hz4 hc5
    refine ⟨by first | exact hl5 | exact fun _ => hl5, ?_⟩
    refine plan_group [false, false, false, false, false, false, false, false, false, true] [9] 0 (by dsimp only [sel]) (by rfl) rfl (by kernel_rfl) (by kernel_rfl) hl5 ?_
    clear hl5
    go_simp
    (repeat go_big_quiet_step (fail)); refine wpQuiet_nil ?_
    refine wp_plan_end (by kernel_rfl) ?_
    refine hK5 _ _ ?_
    clear HS
    go_wp2
    refine bodyPost_ret (res_cell2 rfl _ _ (b0 + 1) _ _ rfl H5.out.1 Try.underlying37 rfl cm.info_rec) rfl ?_
    refine ⟨⟨_, rfl, .slice Ak nk ck, .slice Au nu cu, ?_, ?_, ?_⟩, H5.out.2.2.2⟩
    · rw [H4.out.2.2.2.2.2.2.1, H4.out.2.2.2.2.2.2.2.1, H4.out.2.2.2.2.2.2.2.2.1, H4.out.2.2.2.2.2.2.2.2.2]
    · exact ⟨Ak, ck, by rw [H4.out.2.2.2.2.1], H5.out.2.1, H4.out.1.2⟩
    · exact ⟨Au, cu, by rw [H4.out.2.2.2.2.2.1], H5.out.2.2.1, H4.out.2.1.2⟩
end Go.Proofs.Ytkkpbnhagobhmaa

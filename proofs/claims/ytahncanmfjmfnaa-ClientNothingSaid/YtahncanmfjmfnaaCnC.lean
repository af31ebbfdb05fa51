/- client: producers and readers in memory; nothing; what is made. -/
import Derived.Test.YtahncanmfjmfnaaCnK
import Derived.Test.YtahncanmfjmfnaaCnB
import Derived.Test.YtahncanmfjmfnaaClone
import Derived.Test.YtahncanmfjmfnaaPlanZ
import Derived.Laws.ResultCell
namespace Go.Proofs.Ytahncanmfjmfnaa
open Go.RowKit Go.Maps
set_option maxRecDepth 100000

def cn.zero : Array Value := #[.int .i64 0, .int .i64 0, .string (ByteArray.mk #[]), .string (ByteArray.mk #[]), .int .i64 0, .int .i64 0, .int .i64 0, .int .i64 0, .string (ByteArray.mk #[]), .string (ByteArray.mk #[]), .int .i64 0, .slice none 0 0, .slice none 0 0]
def cn.req (corr : Int) (topic : ByteArray) (part : Int) (v : Value) : Array Value := #[.int .i64 4, .int .i64 corr, .string (ByteArray.mk #[]), .string topic, .int .i64 part, .int .i64 0, .int .i64 0, .int .i64 0, .string (ByteArray.mk #[]), .string (ByteArray.mk #[]), .int .i64 0, .slice none 0 0, v]
theorem cn.infoReq : (Try.prog.info? 35).map (·.size) = some 13 := by kernel_rfl

/-! Nothing. -/
set_option maxHeartbeats 1000000 in
theorem cn.seq_nil (topic : ByteArray) (part : Int) (w : World) : Calls Try.prog 17 #[.pointer none, .string topic, .int .i64 part] w fun e w' => e = .returned (.int .i64 0) ∧ w = w' := by
  go_enter Try.func17, Try.ntmps17
  go_wp2_with fail
  go_ret
  exact ⟨rfl, rfl⟩
theorem cn.offset_nil (w : World) : Calls Try.prog 22 #[.pointer none] w fun e w' => e = .returned (.int .i64 0) ∧ w = w' := by
  go_enter Try.func22, Try.ntmps22
  go_wp2_with fail
  go_ret
  exact ⟨rfl, rfl⟩
theorem cn.res_cell2 {P : Program} {fn : Func} {p u : Tmp} {ty T : TypeId} (h : fn.results = #[.cell p ty, .tmp u]) (tmps : Array Value) (w : World) (g : Nat) (cs : Array Value) (d : TypeDesc) (hp : tmps.getD p undef = .pointer (some ⟨g, 0, none⟩)) (hg : Blk w g T cs)
    (hu : P.underlying ty = some d) (hd : (match d with | .struct _ | .array _ _ => true | _ => false) = true) (hi : (P.info? ty).map (·.size) = some cs.size) :
    (results fn tmps).run P w = .ok (.tuple #[.agg cs, tmps.getD u undef]) w := by
  have hp' : tmps[p]?.getD undef = .pointer (some ⟨g, 0, none⟩) := by simpa using hp
  simp [results, h, hp', asAddr, run_loadVar_row w g T ty cs (0, 0) d hg hu hd hi]
set_option maxHeartbeats 1000000 in
theorem cn.done_nil (r : Array Value) (w : World) : Calls Try.prog 15 #[.pointer none, .agg r] w fun e w' => e = .returned (.tuple #[.int .i64 0, .int .i64 1]) ∧ Below w.heap.size w w' := by
  go_enter Try.func15, Try.ntmps15
  go_wp2_with fail
  go_ret2
  exact ⟨rfl, (Below.refl _ _).alloc (Nat.le_refl _) _⟩
set_option maxHeartbeats 1000000 in
theorem cn.got_nil (r : Array Value) (w : World) : Calls Try.prog 21 #[.pointer none, .agg r] w fun e w' => e = .returned (.tuple #[.slice none 0 0, .int .i64 1]) ∧ Below w.heap.size w w' := by
  go_enter Try.func21, Try.ntmps21
  go_wp2_with fail
  go_ret2
  exact ⟨rfl, (Below.refl _ _).alloc (Nat.le_refl _) _⟩
set_option maxHeartbeats 1000000 in
theorem cn.make_nil (topic : ByteArray) (part : Int) (v : Value) (w : World) : Calls Try.prog 13 #[.pointer none, .string topic, .int .i64 part, v] w fun e w' => e = .returned (.tuple #[.agg cn.zero, .int .i64 1]) ∧ Below w.heap.size w w' := by
  go_enter Try.func13, Try.ntmps13
  go_wp2_with fail
  refine bodyPost_ret (cn.res_cell2 rfl _ _ w.heap.size cn.zero _ rfl (Blk.new w 35 cn.zero) Try.underlying35 rfl cn.infoReq) rfl ?_
  exact ⟨rfl, (Below.refl _ _).alloc (Nat.le_refl _) _⟩
set_option maxHeartbeats 1000000 in
theorem cn.retry_nil (w : World) : Calls Try.prog 16 #[.pointer none] w fun e w' => e = .returned (.tuple #[.agg cn.zero, .bool false]) ∧ Below w.heap.size w w' := by
  go_enter Try.func16, Try.ntmps16
  go_wp2_with fail
  refine bodyPost_ret (cn.res_cell2 rfl _ _ w.heap.size cn.zero _ rfl (Blk.new w 35 cn.zero) Try.underlying35 rfl cn.infoReq) rfl ?_
  exact ⟨rfl, (Below.refl _ _).alloc (Nat.le_refl _) _⟩
set_option maxHeartbeats 1000000 in
theorem cn.ask_nil (most : Int) (w : World) : Calls Try.prog 19 #[.pointer none, .int .i64 most] w fun e w' => e = .returned (.agg cn.zero) ∧ Below w.heap.size w w' := by
  go_enter Try.func19, Try.ntmps19
  go_wp2_with fail
  refine bodyPost_ret (cn.res_cell1 rfl _ _ w.heap.size cn.zero _ rfl (Blk.new w 35 cn.zero) Try.underlying35 rfl cn.infoReq) rfl ?_
  exact ⟨rfl, (Below.refl _ _).alloc (Nat.le_refl _) _⟩

/-! A producer. -/
structure CSent where
  corr : Int
  topic : ByteArray
  part : Int
  data : List Nat
  count : Int
def cn.sent (s : CSent) (v : Value) : List Value := (cn.req s.corr s.topic s.part v).toList ++ [.int .i64 s.count]
/-- The batch under way, in its row. -/
def cn.Under (w : World) (F : Nat → Prop) (uv : Value) : Option CSent → Prop
  | none => w.ownsRow 0 83 14 uv 0 []
  | some s => ∃ dv, w.ownsRow 0 83 14 uv 1 (cn.sent s dv) ∧ w.ownsRow 0 5 1 dv s.data.length (u8s s.data) ∧ ∀ k, dv.ownBlock = some k → F k
/-- The producer at p: what it is, what is under way, what is done; F its blocks, n no fewer than its places. -/
def CnAt (w : World) (p : Nat) (id epoch corr : Int) (u : Option CSent) (D : SlotK → Int) (F : Nat → Prop) (n : Nat) : Prop :=
  ∃ uv mb N g, Blk w p 77 #[.int .i64 id, .int .i64 epoch, .int .i64 corr, uv, .map (some mb)] ∧ GM slotKey w mb N g ∧ (∀ x, (g x).getD (.int .i64 0) = .int .i64 (D x)) ∧ N ≤ n ∧
    cn.Under w F uv u ∧ (F p ∧ F mb ∧ ∀ k, uv.ownBlock = some k → F k) ∧ (∀ k, F k → k < w.heap.size)
def cn.fresh (w w' : World) (k : Nat) : Prop := w.heap.size ≤ k ∧ k < w'.heap.size
def cn.grow (F : Nat → Prop) (w w' : World) (k : Nat) : Prop := (F k ∨ w.heap.size ≤ k) ∧ k < w'.heap.size
theorem cn.Under.keep {w w' : World} {F P : Nat → Prop} {uv : Value} {u : Option CSent} (h : cn.Under w F uv u) (hu : ∀ k, uv.ownBlock = some k → F k) (hc : Chg w w' P) (hp : ∀ k, F k → ¬ P k) : cn.Under w' F uv u := by
  cases u with
  | none => exact hc.own h fun k hk => hp k (hu k hk)
  | some s =>
    obtain ⟨dv, h1, h2, h3⟩ := h
    exact ⟨dv, hc.own h1 fun k hk => hp k (hu k hk), hc.own h2 fun k hk => hp k (h3 k hk), h3⟩
theorem CnAt.keep {w w' : World} {p : Nat} {id epoch corr : Int} {u : Option CSent} {D : SlotK → Int} {F P : Nat → Prop} {n : Nat} (h : CnAt w p id epoch corr u D F n) (hc : Chg w w' P) (hp : ∀ k, F k → ¬ P k) : CnAt w' p id epoch corr u D F n := by
  obtain ⟨uv, mb, N, g, h1, h2, h3, h4, h5, ⟨f1, f2, f3⟩, h7⟩ := h
  exact ⟨uv, mb, N, g, hc.blk h1 (hp _ f1), h2.chg hc (hp _ f2), h3, h4, h5.keep f3 hc hp, ⟨f1, f2, f3⟩, fun k hk => Nat.lt_of_lt_of_le (h7 k hk) hc.size⟩
theorem CnAt.below {w w' : World} {p : Nat} {id epoch corr : Int} {u : Option CSent} {D : SlotK → Int} {F : Nat → Prop} {n : Nat} (h : CnAt w p id epoch corr u D F n) (hb : Below w.heap.size w w') : CnAt w' p id epoch corr u D F n := h.keep (chg_of (P := fun _ => False) hb) fun _ _ q => q

set_option maxHeartbeats 1000000 in
theorem cn.new_ok (id epoch : Int) (w : World) (h1 : 1 ≤ id ∧ id ≤ 1099511627776) (h2 : 0 ≤ epoch ∧ epoch ≤ 32767) :
    Calls Try.prog 10 #[.int .i64 id, .int .i64 epoch] w fun e w' => ∃ p, e = .returned (.tuple #[.pointer (some ⟨p, 0, none⟩), .int .i64 0]) ∧ CnAt w' p id epoch 0 none (fun _ => 0) (cn.fresh w w') 0 ∧ Below w.heap.size w w' := by
  have g1 : decide (id < 1) = false := decide_eq_false (by omega)
  have g2 : decide (1099511627776 < id) = false := decide_eq_false (by omega)
  have g3 : decide (epoch < 0) = false := decide_eq_false (by omega)
  have g4 : decide (32767 < epoch) = false := decide_eq_false (by omega)
  have hmm := @run_makeMap Try.prog
  go_enter Try.func10, Try.ntmps10
  go_wp2_with fail
  obtain ⟨w1, hw1⟩ : ∃ w1, w1 = w.alloc (.map #[] 0) := ⟨_, rfl⟩
  rw [← hw1]
  obtain ⟨w2, hw2⟩ : ∃ w2, w2 = w1.alloc (.cells #[.int .i64 id, .int .i64 epoch, .int .i64 0, .slice none 0 0, .map (some w.heap.size)] 77) := ⟨_, rfl⟩
  rw [← hw2]
  have s1 : w1.heap.size = w.heap.size + 1 := by rw [hw1]; simp
  have s2 : w2.heap.size = w.heap.size + 2 := by rw [hw2]; simp [s1]
  have hb1 : Below w.heap.size w w1 := by rw [hw1]; exact (Below.refl _ _).alloc (Nat.le_refl _) _
  have hc2 : Chg w1 w2 (fun _ => False) := by rw [hw2]; exact Chg.alloc _ _ _
  have hg : GM slotKey w2 w.heap.size 0 (fun _ => none) := GM.chg (by rw [hw1]; exact GM.made slotKey w) hc2 fun q => q
  have hk : Blk w2 w1.heap.size 77 #[.int .i64 id, .int .i64 epoch, .int .i64 0, .slice none 0 0, .map (some w.heap.size)] := by rw [hw2]; exact Blk.new _ _ _
  have hb2 : Below w.heap.size w w2 := by rw [hw2]; exact hb1.alloc hb1.size _
  clear hw1 hw2
  go_ret2
  rw [s1] at hk
  exact ⟨w.heap.size + 1, rfl, ⟨.slice none 0 0, w.heap.size, 0, _, hk, hg, fun _ => rfl, Nat.le_refl _, World.ownsRow_nil _ _ _ _, ⟨⟨by omega, by omega⟩, ⟨Nat.le_refl _, by omega⟩, fun k hk => by cases hk⟩, fun k hk => hk.2⟩, hb2⟩
set_option maxHeartbeats 1000000 in
theorem cn.new_bad (id epoch : Int) (w : World) (h : ¬ ((1 ≤ id ∧ id ≤ 1099511627776) ∧ (0 ≤ epoch ∧ epoch ≤ 32767))) :
    Calls Try.prog 10 #[.int .i64 id, .int .i64 epoch] w fun e w' => e = .returned (.tuple #[.pointer none, .int .i64 1]) ∧ w = w' := by
  go_enter Try.func10, Try.ntmps10
  by_cases g1 : id < 1
  · go_wp2_with fail
    go_ret2
    exact ⟨rfl, rfl⟩
  by_cases g2 : 1099511627776 < id
  · go_wp2_with fail
    go_ret2
    exact ⟨rfl, rfl⟩
  by_cases g3 : epoch < 0
  · go_wp2_with fail
    go_ret2
    exact ⟨rfl, rfl⟩
  have g4 : 32767 < epoch := by omega
  go_wp2_with fail
  go_ret2
  exact ⟨rfl, rfl⟩
theorem CnAt.lt {w : World} {p : Nat} {id epoch corr : Int} {u : Option CSent} {D : SlotK → Int} {F : Nat → Prop} {n : Nat} (h : CnAt w p id epoch corr u D F n) : F p ∧ ∀ k, F k → k < w.heap.size := by
  obtain ⟨uv, mb, N, g, -, -, -, -, -, ⟨f1, -⟩, h7⟩ := h
  exact ⟨f1, h7⟩
theorem cn.zero_int (w : World) : (zeroValue 3).run Try.prog w = .ok (.int .i64 0) w := by kernel_rfl
set_option maxHeartbeats 1000000 in
theorem cn.seq_any (x : SlotK) (p : Nat) (id epoch corr : Int) (u : Option CSent) (D : SlotK → Int) (F : Nat → Prop) (n : Nat) (w : World) (h : CnAt w p id epoch corr u D F n) :
    Calls Try.prog 17 #[.pointer (some ⟨p, 0, none⟩), .string x.s, .int .i64 x.p] w fun e w' => e = .returned (.int .i64 (D x)) ∧ w = w' := by
  obtain ⟨uv, mb, N, g, h1, h2, h3, -⟩ := h
  have c4 := h1.cell 4 rfl
  have hl := h1.lt
  have hk : (Instr.lookup 74 (.map (some mb)) (.agg #[.string x.s, .int .i64 x.p]) false).run Try.prog w = .ok (.int .i64 (D x)) w := by
    have := h2.look1 Try.underlying74 (cn.zero_int w) x trivial
    rw [h3] at this
    exact this
  go_enter Try.func17, Try.ntmps17
  go_wp2_with fail
  go_ret
  exact ⟨rfl, rfl⟩

/-! A reader. -/
def RdrAt (w : World) (p : Nat) (topic : ByteArray) (part offset corr : Int) : Prop := Blk w p 93 #[.string topic, .int .i64 part, .int .i64 offset, .int .i64 corr]
set_option maxHeartbeats 1000000 in
theorem cn.reader_ok (topic : ByteArray) (part offset : Int) (w : World) (h : 0 ≤ offset ∧ offset ≤ 4611686018427387904) :
    Calls Try.prog 18 #[.string topic, .int .i64 part, .int .i64 offset] w fun e w' => e = .returned (.tuple #[.pointer (some ⟨w.heap.size, 0, none⟩), .int .i64 0]) ∧ RdrAt w' w.heap.size topic part offset 0 ∧ Below w.heap.size w w' := by
  have g1 : decide (offset < 0) = false := decide_eq_false (by omega)
  have g2 : decide (4611686018427387904 < offset) = false := decide_eq_false (by omega)
  go_enter Try.func18, Try.ntmps18
  go_wp2_with fail
  go_ret2
  exact ⟨rfl, Blk.new _ _ _, (Below.refl _ _).alloc (Nat.le_refl _) _⟩
set_option maxHeartbeats 1000000 in
theorem cn.reader_bad (topic : ByteArray) (part offset : Int) (w : World) (h : ¬ (0 ≤ offset ∧ offset ≤ 4611686018427387904)) :
    Calls Try.prog 18 #[.string topic, .int .i64 part, .int .i64 offset] w fun e w' => e = .returned (.tuple #[.pointer none, .int .i64 1]) ∧ w = w' := by
  go_enter Try.func18, Try.ntmps18
  by_cases g1 : offset < 0
  · go_wp2_with fail
    go_ret2
    exact ⟨rfl, rfl⟩
  have g2 : 4611686018427387904 < offset := by omega
  go_wp2_with fail
  go_ret2
  exact ⟨rfl, rfl⟩
theorem cn.offset_any (p : Nat) (topic : ByteArray) (part offset corr : Int) (w : World) (h : RdrAt w p topic part offset corr) : Calls Try.prog 22 #[.pointer (some ⟨p, 0, none⟩)] w fun e w' => e = .returned (.int .i64 offset) ∧ w = w' := by
  have c2 := h.cell 2 rfl
  have hl := h.lt
  go_enter Try.func22, Try.ntmps22
  go_wp2_with fail
  go_ret
  exact ⟨rfl, rfl⟩
end Go.Proofs.Ytahncanmfjmfnaa

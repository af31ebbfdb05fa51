/- proto: requests and answers as arguments, opened. -/
import Derived.Test.YtimcpbbcealkiaaOpenG
import Derived.Test.YtimcpbbcealkiaaOpenY
import Derived.Test.YtimcpbbcealkiaaOpenS
import Derived.Test.YtimcpbbcealkiaaBlk
namespace Go.Proofs.Ytimcpbbcealkiaa
open Go.ChangeShapes Go.WideShapes Go.ChangeAt Go.RowKit

def pq.int (x : Int) : Prop := -9223372036854775808 ≤ x ∧ x ≤ 9223372036854775807
/-- A value is a slice of these texts. -/
def StrsV (w : World) (v : Value) (l : List ByteArray) : Prop := ∃ A c, v = .slice A l.length c ∧ At w A l.length (fun j => .string (l.getD j ByteArray.empty)) ∧ l.length ≤ c ∧ c ≤ maxLen ∧ ∀ s ∈ l, s.size ≤ maxLen
theorem StrsV.below {w w' : World} {v : Value} {l : List ByteArray} {B : Nat} (h : StrsV w v l) (hb : Below B w w') (hB : w.heap.size ≤ B) : StrsV w' v l := by
  obtain ⟨A, c, h1, h2, h3⟩ := h
  exact ⟨A, c, h1, h2.below hb hB, h3⟩
/-- A value is a slice of these numbers. -/
def IntsV (w : World) (v : Value) (l : List Int) : Prop := ∃ A c, v = .slice A l.length c ∧ At w A l.length (fun j => .int .i64 (l.getD j 0)) ∧ l.length ≤ c ∧ c ≤ maxLen ∧ ∀ x ∈ l, pq.int x
theorem IntsV.below {w w' : World} {v : Value} {l : List Int} {B : Nat} (h : IntsV w v l) (hb : Below B w w') (hB : w.heap.size ≤ B) : IntsV w' v l := by
  obtain ⟨A, c, h1, h2, h3⟩ := h
  exact ⟨A, c, h1, h2.below hb hB, h3⟩
instance : Inhabited ByteArray := ⟨ByteArray.empty⟩
theorem strs_of {H : Type} {enc : TypeId × Value → H} {P : Program} {W : World} {t e : TypeId} (ht : P.underlying t = some (.slice e)) (he : P.underlying e = some .string) (hc : P.cellsOf e = 1) {fuel : Nat} {v : Value} {x : DataW H × List MemPlace}
    (hf : DataW.trod enc P W 0 (fun _ => true) true fuel t [v] = some x) (hlt : ∀ y ∈ x.2, y.block < W.heap.size) : ∃ l, StrsV W v l := by
  obtain ⟨xs, A, n, c, V, h1, h2, h3, h4, h5, h6⟩ := trod_slg ht (m := 1) hc (by omega) (R := fun cs (a : ByteArray) => cs = [.string a] ∧ a.size ≤ maxLen) (fun _ _ _ h hl => by
    obtain ⟨a, e, _, hm⟩ := DataW.trod_string he h
    exact ⟨a, e, hm⟩) hf hlt
  simp only [List.cons.injEq, and_true] at h1
  subst h1 h2
  rw [Nat.mul_one] at h5
  refine ⟨xs, A, c, rfl, h5.congr fun j hj => ?_, h3, h4, fun s hs => ?_⟩
  · have := cellsAt_cell (h6 j xs[j] (List.getElem?_eq_getElem hj)).1 0 (by omega) rfl
    rw [Nat.mul_one, Nat.add_zero] at this
    rw [this]
    simp [List.getD, List.getElem?_eq_getElem hj]
  · obtain ⟨j, hj⟩ := List.mem_iff_getElem?.1 hs
    exact (h6 j s hj).2
theorem ints_of {H : Type} {enc : TypeId × Value → H} {P : Program} {W : World} {t e : TypeId} (ht : P.underlying t = some (.slice e)) (he : P.underlying e = some (.int .i64)) (hc : P.cellsOf e = 1) {fuel : Nat} {v : Value} {x : DataW H × List MemPlace}
    (hf : DataW.trod enc P W 0 (fun _ => true) true fuel t [v] = some x) (hlt : ∀ y ∈ x.2, y.block < W.heap.size) : ∃ l, IntsV W v l := by
  obtain ⟨xs, A, n, c, V, h1, h2, h3, h4, h5, h6⟩ := trod_slg ht (m := 1) hc (by omega) (R := fun cs (a : Int) => cs = [.int .i64 a] ∧ pq.int a) (fun _ _ _ h hl => by
    obtain ⟨a, e, _, hm⟩ := DataW.trod_int he h
    exact ⟨a, e, wf_bd hm⟩) hf hlt
  simp only [List.cons.injEq, and_true] at h1
  subst h1 h2
  rw [Nat.mul_one] at h5
  refine ⟨xs, A, c, rfl, h5.congr fun j hj => ?_, h3, h4, fun s hs => ?_⟩
  · have := cellsAt_cell (h6 j xs[j] (List.getElem?_eq_getElem hj)).1 0 (by omega) rfl
    rw [Nat.mul_one, Nat.add_zero] at this
    rw [this]
    simp [List.getD, List.getElem?_eq_getElem hj]
  · obtain ⟨j, hj⟩ := List.mem_iff_getElem?.1 hs
    exact (h6 j s hj).2

/-- A request. -/
structure PReq where
  kind : Int
  corr : Int
  client : ByteArray
  topic : ByteArray
  part : Int
  off : Int
  time : Int
  most : Int
  group : ByteArray
  member : ByteArray
  gen : Int
  names : List ByteArray
  data : List Nat
/-- Its cells, the names and the data at these places. -/
def PReq.cells (r : PReq) (An : Option Addr) (cn : Nat) (Ad : Option Addr) (cd : Nat) : Array Value := #[.int .i64 r.kind, .int .i64 r.corr, .string r.client, .string r.topic, .int .i64 r.part, .int .i64 r.off, .int .i64 r.time, .int .i64 r.most, .string r.group, .string r.member, .int .i64 r.gen, .slice An r.names.length cn, .slice Ad r.data.length cd]
/-- Its numbers are ints, its texts have a length. -/
def PReq.fit (r : PReq) : Prop := (pq.int r.kind ∧ pq.int r.corr ∧ pq.int r.part ∧ pq.int r.off ∧ pq.int r.time ∧ pq.int r.most ∧ pq.int r.gen) ∧ (r.client.size ≤ maxLen ∧ r.topic.size ≤ maxLen ∧ r.group.size ≤ maxLen ∧ r.member.size ≤ maxLen)
/-- It lies so. -/
def ReqV (w : World) (An : Option Addr) (cn : Nat) (Ad : Option Addr) (cd : Nat) (r : PReq) : Prop := r.fit ∧ StrsV w (.slice An r.names.length cn) r.names ∧ BytesV w (.slice Ad r.data.length cd) r.data
theorem ReqV.below {w w' : World} {An : Option Addr} {cn : Nat} {Ad : Option Addr} {cd : Nat} {r : PReq} {B : Nat} (h : ReqV w An cn Ad cd r) (hb : Below B w w') (hB : w.heap.size ≤ B) : ReqV w' An cn Ad cd r := ⟨h.1, h.2.1.below hb hB, h.2.2.below hb hB⟩
/-- An answer. -/
structure PAns where
  corr : Int
  code : Int
  off : Int
  last : Int
  gen : Int
  member : ByteArray
  leader : ByteArray
  names : List ByteArray
  nums : List Int
  data : List Nat
def PAns.cells (r : PAns) (An : Option Addr) (cn : Nat) (Am : Option Addr) (cm : Nat) (Ad : Option Addr) (cd : Nat) : Array Value := #[.int .i64 r.corr, .int .i64 r.code, .int .i64 r.off, .int .i64 r.last, .int .i64 r.gen, .string r.member, .string r.leader, .slice An r.names.length cn, .slice Am r.nums.length cm, .slice Ad r.data.length cd]
def PAns.fit (r : PAns) : Prop := (pq.int r.corr ∧ pq.int r.code ∧ pq.int r.off ∧ pq.int r.last ∧ pq.int r.gen) ∧ (r.member.size ≤ maxLen ∧ r.leader.size ≤ maxLen)
def AnsV (w : World) (An : Option Addr) (cn : Nat) (Am : Option Addr) (cm : Nat) (Ad : Option Addr) (cd : Nat) (r : PAns) : Prop := r.fit ∧ StrsV w (.slice An r.names.length cn) r.names ∧ IntsV w (.slice Am r.nums.length cm) r.nums ∧ BytesV w (.slice Ad r.data.length cd) r.data
theorem AnsV.below {w w' : World} {An : Option Addr} {cn : Nat} {Am : Option Addr} {cm : Nat} {Ad : Option Addr} {cd : Nat} {r : PAns} {B : Nat} (h : AnsV w An cn Am cm Ad cd r) (hb : Below B w w') (hB : w.heap.size ≤ B) : AnsV w' An cn Am cm Ad cd r := ⟨h.1, h.2.1.below hb hB, h.2.2.1.below hb hB, h.2.2.2.below hb hB⟩

theorem field_strs {H : Type} {enc : TypeId × Value → H} {P : Program} {W : World} {t : Nat} {fs : Array Field} (ht : P.underlying t = some (.struct fs)) {fuel : Nat} {cs : List Value} {x : DataW H × List MemPlace} (h : DataW.trod enc P W 0 (fun _ => true) true fuel t cs = some x)
    (hlt : ∀ y ∈ x.2, y.block < W.heap.size) (j o : Nat) (f : Field) (hj : fs[j]? = some f) (ho : f.offset = o) (h1 : P.cellsOf f.type = 1) (hlen : o < P.cellsOf t) {e : TypeId} (hu : P.underlying f.type = some (.slice e)) (he : P.underlying e = some .string) (hc : P.cellsOf e = 1) :
    ∃ v l, cs[o]? = some v ∧ StrsV W v l := by
  obtain ⟨v, n, z, hv, hz, hl⟩ := field_one ht h hlt j f hj h1 (by omega)
  obtain ⟨L, hL⟩ := strs_of hu he hc hz hl
  exact ⟨v, L, by rw [← ho]; exact hv, hL⟩
theorem field_ints {H : Type} {enc : TypeId × Value → H} {P : Program} {W : World} {t : Nat} {fs : Array Field} (ht : P.underlying t = some (.struct fs)) {fuel : Nat} {cs : List Value} {x : DataW H × List MemPlace} (h : DataW.trod enc P W 0 (fun _ => true) true fuel t cs = some x)
    (hlt : ∀ y ∈ x.2, y.block < W.heap.size) (j o : Nat) (f : Field) (hj : fs[j]? = some f) (ho : f.offset = o) (h1 : P.cellsOf f.type = 1) (hlen : o < P.cellsOf t) {e : TypeId} (hu : P.underlying f.type = some (.slice e)) (he : P.underlying e = some (.int .i64)) (hc : P.cellsOf e = 1) :
    ∃ v l, cs[o]? = some v ∧ IntsV W v l := by
  obtain ⟨v, n, z, hv, hz, hl⟩ := field_one ht h hlt j f hj h1 (by omega)
  obtain ⟨L, hL⟩ := ints_of hu he hc hz hl
  exact ⟨v, L, by rw [← ho]; exact hv, hL⟩

set_option maxRecDepth 20000 in
theorem open_req {H : Type} {enc : TypeId × Value → H} {W : World} {base : Nat} {v : Value} {d : DataW H} {p : List MemPlace}
    (hv : Value.okWide Try.prog W .any base 25 v) (h : DataW.Trod enc Try.prog W 0 (fun _ => true) true 25 v d p) (hlt : ∀ x ∈ p, x.block < W.heap.size) :
    ∃ (r : PReq) (An : Option Addr) (cn : Nat) (Ad : Option Addr) (cd : Nat), v = .agg (r.cells An cn Ad cd) ∧ ReqV W An cn Ad cd r := by
  obtain ⟨cs, rfl, hsz⟩ := okWide_struct Try.underlying25 hv
  obtain ⟨fuel, h⟩ := h
  have hc : Value.cells (.agg cs) = cs := rfl
  rw [hc] at h
  have hl2 : cs.toList.length = 13 := (trod_field Try.underlying25 h hlt).1.trans (by kernel_rfl)
  have hm : (Try.prog.cellsOf 25) = 13 := by kernel_rfl
  have hi : (Try.prog.cellsOf 3) = 1 := by kernel_rfl
  have hs : (Try.prog.cellsOf 9) = 1 := by kernel_rfl
  have hn : (Try.prog.cellsOf 22) = 1 := by kernel_rfl
  have hb : (Try.prog.cellsOf 23) = 1 := by kernel_rfl
  have h8 : (Try.prog.cellsOf 5) = 1 := by kernel_rfl
  obtain ⟨a0, g0, w0⟩ := field_int Try.underlying25 h hlt .i64 0 0 _ rfl rfl hi (by rw [hm]; omega) Try.underlying3
  obtain ⟨a1, g1, w1⟩ := field_int Try.underlying25 h hlt .i64 1 1 _ rfl rfl hi (by rw [hm]; omega) Try.underlying3
  obtain ⟨a2, g2, w2⟩ := field_str Try.underlying25 h hlt 2 2 _ rfl rfl hs (by rw [hm]; omega) Try.underlying9
  obtain ⟨a3, g3, w3⟩ := field_str Try.underlying25 h hlt 3 3 _ rfl rfl hs (by rw [hm]; omega) Try.underlying9
  obtain ⟨a4, g4, w4⟩ := field_int Try.underlying25 h hlt .i64 4 4 _ rfl rfl hi (by rw [hm]; omega) Try.underlying3
  obtain ⟨a5, g5, w5⟩ := field_int Try.underlying25 h hlt .i64 5 5 _ rfl rfl hi (by rw [hm]; omega) Try.underlying3
  obtain ⟨a6, g6, w6⟩ := field_int Try.underlying25 h hlt .i64 6 6 _ rfl rfl hi (by rw [hm]; omega) Try.underlying3
  obtain ⟨a7, g7, w7⟩ := field_int Try.underlying25 h hlt .i64 7 7 _ rfl rfl hi (by rw [hm]; omega) Try.underlying3
  obtain ⟨a8, g8, w8⟩ := field_str Try.underlying25 h hlt 8 8 _ rfl rfl hs (by rw [hm]; omega) Try.underlying9
  obtain ⟨a9, g9, w9⟩ := field_str Try.underlying25 h hlt 9 9 _ rfl rfl hs (by rw [hm]; omega) Try.underlying9
  obtain ⟨a10, g10, w10⟩ := field_int Try.underlying25 h hlt .i64 10 10 _ rfl rfl hi (by rw [hm]; omega) Try.underlying3
  obtain ⟨v11, l11, g11, w11⟩ := field_strs Try.underlying25 h hlt 11 11 _ rfl rfl hn (by rw [hm]; omega) Try.underlying22 Try.underlying9 hs
  obtain ⟨v12, l12, g12, w12⟩ := field_bytes Try.underlying25 h hlt 12 12 _ rfl rfl hb (by rw [hm]; omega) Try.underlying23 Try.underlying5 h8
  obtain ⟨An, cn, rfl, hx11⟩ := id w11
  obtain ⟨Ad, cd, rfl, hx12⟩ := id w12
  refine ⟨⟨a0, a1, a2, a3, a4, a5, a6, a7, a8, a9, a10, l11, l12⟩, An, cn, Ad, cd, ?_, ⟨⟨wf_bd w0, wf_bd w1, wf_bd w4, wf_bd w5, wf_bd w6, wf_bd w7, wf_bd w10⟩, w2, w3, w8, w9⟩, w11, w12⟩
  refine congrArg Value.agg (Array.ext' (List.ext_getElem? fun j => ?_))
  unfold PReq.cells
  match j with
  | 0 => exact g0
  | 1 => exact g1
  | 2 => exact g2
  | 3 => exact g3
  | 4 => exact g4
  | 5 => exact g5
  | 6 => exact g6
  | 7 => exact g7
  | 8 => exact g8
  | 9 => exact g9
  | 10 => exact g10
  | 11 => exact g11
  | 12 => exact g12
  | j + 13 => rw [List.getElem?_eq_none (by omega), List.getElem?_eq_none (by simp)]
set_option maxRecDepth 20000 in
theorem open_ans {H : Type} {enc : TypeId × Value → H} {W : World} {base : Nat} {v : Value} {d : DataW H} {p : List MemPlace}
    (hv : Value.okWide Try.prog W .any base 41 v) (h : DataW.Trod enc Try.prog W 0 (fun _ => true) true 41 v d p) (hlt : ∀ x ∈ p, x.block < W.heap.size) :
    ∃ (r : PAns) (An : Option Addr) (cn : Nat) (Am : Option Addr) (cm : Nat) (Ad : Option Addr) (cd : Nat), v = .agg (r.cells An cn Am cm Ad cd) ∧ AnsV W An cn Am cm Ad cd r := by
  obtain ⟨cs, rfl, hsz⟩ := okWide_struct Try.underlying41 hv
  obtain ⟨fuel, h⟩ := h
  have hc : Value.cells (.agg cs) = cs := rfl
  rw [hc] at h
  have hl2 : cs.toList.length = 10 := (trod_field Try.underlying41 h hlt).1.trans (by kernel_rfl)
  have hm : (Try.prog.cellsOf 41) = 10 := by kernel_rfl
  have hi : (Try.prog.cellsOf 3) = 1 := by kernel_rfl
  have hs : (Try.prog.cellsOf 9) = 1 := by kernel_rfl
  have hn : (Try.prog.cellsOf 22) = 1 := by kernel_rfl
  have hz : (Try.prog.cellsOf 39) = 1 := by kernel_rfl
  have hb : (Try.prog.cellsOf 23) = 1 := by kernel_rfl
  have h8 : (Try.prog.cellsOf 5) = 1 := by kernel_rfl
  obtain ⟨a0, g0, w0⟩ := field_int Try.underlying41 h hlt .i64 0 0 _ rfl rfl hi (by rw [hm]; omega) Try.underlying3
  obtain ⟨a1, g1, w1⟩ := field_int Try.underlying41 h hlt .i64 1 1 _ rfl rfl hi (by rw [hm]; omega) Try.underlying3
  obtain ⟨a2, g2, w2⟩ := field_int Try.underlying41 h hlt .i64 2 2 _ rfl rfl hi (by rw [hm]; omega) Try.underlying3
  obtain ⟨a3, g3, w3⟩ := field_int Try.underlying41 h hlt .i64 3 3 _ rfl rfl hi (by rw [hm]; omega) Try.underlying3
  obtain ⟨a4, g4, w4⟩ := field_int Try.underlying41 h hlt .i64 4 4 _ rfl rfl hi (by rw [hm]; omega) Try.underlying3
  obtain ⟨a5, g5, w5⟩ := field_str Try.underlying41 h hlt 5 5 _ rfl rfl hs (by rw [hm]; omega) Try.underlying9
  obtain ⟨a6, g6, w6⟩ := field_str Try.underlying41 h hlt 6 6 _ rfl rfl hs (by rw [hm]; omega) Try.underlying9
  obtain ⟨v7, l7, g7, w7⟩ := field_strs Try.underlying41 h hlt 7 7 _ rfl rfl hn (by rw [hm]; omega) Try.underlying22 Try.underlying9 hs
  obtain ⟨v8, l8, g8, w8⟩ := field_ints Try.underlying41 h hlt 8 8 _ rfl rfl hz (by rw [hm]; omega) Try.underlying39 Try.underlying3 hi
  obtain ⟨v9, l9, g9, w9⟩ := field_bytes Try.underlying41 h hlt 9 9 _ rfl rfl hb (by rw [hm]; omega) Try.underlying23 Try.underlying5 h8
  obtain ⟨An, cn, rfl, hx7⟩ := id w7
  obtain ⟨Am, cm, rfl, hx8⟩ := id w8
  obtain ⟨Ad, cd, rfl, hx9⟩ := id w9
  refine ⟨⟨a0, a1, a2, a3, a4, a5, a6, l7, l8, l9⟩, An, cn, Am, cm, Ad, cd, ?_, ⟨⟨wf_bd w0, wf_bd w1, wf_bd w2, wf_bd w3, wf_bd w4⟩, w5, w6⟩, w7, w8, w9⟩
  refine congrArg Value.agg (Array.ext' (List.ext_getElem? fun j => ?_))
  unfold PAns.cells
  match j with
  | 0 => exact g0
  | 1 => exact g1
  | 2 => exact g2
  | 3 => exact g3
  | 4 => exact g4
  | 5 => exact g5
  | 6 => exact g6
  | 7 => exact g7
  | 8 => exact g8
  | 9 => exact g9
  | j + 10 => rw [List.getElem?_eq_none (by omega), List.getElem?_eq_none (by simp)]
end Go.Proofs.Ytimcpbbcealkiaa

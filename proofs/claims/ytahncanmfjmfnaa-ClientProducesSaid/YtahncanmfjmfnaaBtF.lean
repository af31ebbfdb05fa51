/- batch: contract of Encode. -/
import Derived.Test.YtahncanmfjmfnaaBtD
import Derived.Test.YtahncanmfjmfnaaWrL
import Derived.Test.YtahncanmfjmfnaaCrcR
import Derived.Test.YtahncanmfjmfnaaNumP
namespace Go.Proofs.Ytahncanmfjmfnaa
open Go.RowKit

def bat.field (has : Bool) (L : List Nat) : List Nat := if has then num.put L.length ++ L else num.put (-1)
def Rec.bytes (first base : Int) (r : Rec) : List Nat := num.put (r.body first base) ++ num.put (r.time - first) ++ num.put (r.off - base) ++ bat.field r.hasKey r.key ++ bat.field r.hasVal r.val
def Bat.head (b : Bat) : List Nat := wire.be (b.last - b.base).toNat 8 ++ wire.be (Bat.first b.recs).toNat 8 ++ wire.be b.prod.toNat 8 ++ wire.be b.epoch.toNat 2 ++ wire.be b.seq.toNat 4 ++ wire.be b.recs.length 4
def Bat.body (b : Bat) (k : Nat) : List Nat := b.head ++ ((b.recs.take k).map (Rec.bytes (Bat.first b.recs) b.base)).flatten
def Bat.summed (b : Bat) : List Nat := b.body b.recs.length
def Bat.front (b : Bat) : List Nat := wire.be b.base.toNat 8 ++ wire.be (4 + b.summed.length) 4 ++ wire.be (crc.more 0 b.summed) 4
def Bat.bytes (b : Bat) : List Nat := b.front ++ b.summed

theorem bat.field_le (has : Bool) (L : List Nat) : (bat.field has L).length ≤ 10 + L.length := by
  unfold bat.field
  split
  · have := num.put_bd (L.length : Int); rw [List.length_append]; omega
  · have := num.put_bd (-1); omega
theorem Rec.bytes_le {r : Rec} (h : r.ok) (first base : Int) : (r.bytes first base).length ≤ 2250 := by
  obtain ⟨-, -, -, -, h5, h6⟩ := h
  unfold Rec.bytes
  simp only [List.length_append]
  have a1 := num.put_bd (r.body first base)
  have a2 := num.put_bd (r.time - first)
  have a3 := num.put_bd (r.off - base)
  have a4 := bat.field_le r.hasKey r.key
  have a5 := bat.field_le r.hasVal r.val
  omega
theorem Bat.head_len (b : Bat) : b.head.length = 34 := by
  unfold Bat.head
  simp only [List.length_append, wire.be_len]
theorem Bat.flat_le (first base : Int) (rs : List Rec) (h : ∀ r ∈ rs, r.ok) : ((rs.map (Rec.bytes first base)).flatten).length ≤ 2250 * rs.length := by
  induction rs with
  | nil => simp
  | cons r rs ih =>
    have := ih fun x hx => h x (List.mem_cons_of_mem _ hx)
    have h1 := Rec.bytes_le (h r (List.mem_cons_self ..)) first base
    simp only [List.map_cons, List.flatten_cons, List.length_append, List.length_cons]
    omega
theorem Bat.body_le (b : Bat) (h : ∀ r ∈ b.recs, r.ok) (hl : b.recs.length ≤ 100) (k : Nat) : (b.body k).length ≤ 225034 := by
  have h1 := Bat.flat_le (Bat.first b.recs) b.base (b.recs.take k) fun r hr => h r (List.mem_of_mem_take hr)
  have h2 := b.head_len
  unfold Bat.body
  rw [List.length_append, h2]
  rw [List.length_take] at h1
  omega
theorem Bat.body_succ (b : Bat) (k : Nat) (r : Rec) (h : b.recs[k]? = some r) : b.body (k + 1) = b.body k ++ r.bytes (Bat.first b.recs) b.base := by
  obtain ⟨hk, rfl⟩ := List.getElem?_eq_some_iff.1 h
  unfold Bat.body
  rw [List.take_succ_eq_append_getElem hk, List.map_append, List.flatten_append]
  simp
theorem bat.field_byte {has : Bool} {L : List Nat} (h : ∀ x ∈ L, x < 256) (hl : L.length ≤ 1000000) : ∀ x ∈ bat.field has L, x < 256 := by
  unfold bat.field
  split
  · intro x hx
    rcases List.mem_append.1 hx with q | q
    · exact num.put_byte _ (by omega) (by omega) x q
    · exact h x q
  · exact fun x hx => num.put_byte _ (by decide) (by decide) x hx

set_option maxHeartbeats 1000000 in
theorem bat.field_any {w9 w : World} {B p : Nat} {N : Nat → Prop} {L : List Nat} (h : WrN w9 B p N L w) (has : Bool) (X : Option Addr) (c : Nat) (M : List Nat) (hL : L.length + M.length ≤ 70368744176000) (hat : At w X M.length (byteAt M)) (hx : 0 < M.length → ∀ b off, X = some ⟨b, off, none⟩ → b < B) :
    Calls Try.prog 44 #[.pointer (some ⟨p, 0, none⟩), .bool has, .slice X M.length c] w fun e w' => e = .returned (.tuple #[]) ∧ WrN w9 B p N (L ++ bat.field has M) w' := by
  have H := Lib.hid h; clear h
  have HAT := Lib.hid (And.intro hat hx); clear hat hx
  have hf1 : bat.field true M = num.put M.length ++ M := rfl
  have hf0 : bat.field false M = num.put (-1) := rfl
  have HF1 := Lib.hid hf1; clear hf1
  have HF0 := Lib.hid hf0; clear hf0
  cases has with
  | false =>
    go_enter Try.func44, Try.ntmps44
    go_wp2_with fail
    refine (WrN.num H.out (by omega) (-1) (by decide) (by decide)).mono ?_
    rintro e w' ⟨rfl, hw⟩
    have HW := Lib.hid hw; clear hw
    go_wp2
    refine bodyPost_ret (results_none rfl _ _ _) rfl ?_
    exact ⟨rfl, by rw [HF0.out]; exact HW.out⟩
  | true =>
    go_enter Try.func44, Try.ntmps44
    go_wp2_with fail
    refine (WrN.bytes H.out X c M (by omega) HAT.out.1 HAT.out.2).mono ?_
    rintro e w' ⟨rfl, hw⟩
    have HW := Lib.hid hw; clear hw
    go_wp2
    go_end0
    exact ⟨rfl, by rw [HF1.out, ← List.append_assoc]; exact HW.out⟩

theorem own_pos5 {w : World} {base : Nat} {e : TypeId} {size : Nat} {v : Value} {n : Nat} {xs : List Value} (h : w.ownsRow base e size v n xs) (hn : 0 < n) :
    ∃ g c, v = .slice (some ⟨g, 0, none⟩) n c ∧ n ≤ c ∧ c ≤ maxLen ∧ base ≤ g ∧ g < w.heap.size ∧ At w (some ⟨g, 0, none⟩) (n * size) (fun j => xs.getD j undef) := by
  obtain ⟨A, c, hv, hc, hat⟩ := own_at h
  have hcap := h
  rcases h.2 with ⟨h1, h2⟩ | ⟨g, cap, cur, h1, h2, -⟩
  · omega
  · subst h1
    obtain ⟨rfl, rfl⟩ : some ⟨g, 0, none⟩ = A ∧ cap = c := by simpa using hv
    exact ⟨g, cap, rfl, hc, own_cap hcap, h2, (hcap.lt g rfl).2, hat⟩

theorem Rec.bytes_byte {r : Rec} (h : r.ok) (hk : ∀ x ∈ r.key, x < 256) (hv : ∀ x ∈ r.val, x < 256) {first base : Int} (h1 : 0 ≤ first) (h2 : first ≤ 1125899906842624) (h3 : 0 ≤ base) (h4 : base ≤ 4611686018427387904) : ∀ x ∈ r.bytes first base, x < 256 := by
  have hb := Rec.body_le h first base
  obtain ⟨a1, a2, a3, a4, a5, a6⟩ := h
  intro x hx
  unfold Rec.bytes at hx
  simp only [List.mem_append] at hx
  rcases hx with (((q | q) | q) | q) | q
  · exact num.put_byte _ (by omega) (by omega) x q
  · exact num.put_byte _ (by omega) (by omega) x q
  · exact num.put_byte _ (by omega) (by omega) x q
  · exact bat.field_byte hk (by omega) x q
  · exact bat.field_byte hv (by omega) x q
theorem RecsV.byte {w : World} {v : Value} {rs : List Rec} (h : RecsV w v rs) : ∀ r ∈ rs, (∀ x ∈ r.key, x < 256) ∧ (∀ x ∈ r.val, x < 256) := by
  intro r hr
  obtain ⟨j, hj⟩ := List.mem_iff_getElem?.1 hr
  obtain ⟨p, off, c', kv, vv, -, -, -, -, -, -, -, -, -, -, hk, hvv, -, -⟩ := h.at' hj
  obtain ⟨_, _, _, _, _, _, h1⟩ := hk
  obtain ⟨_, _, _, _, _, _, h2⟩ := hvv
  exact ⟨h1, h2⟩
theorem Bat.summed_byte {b : Bat} (hm : b.may) (ho : ∀ r ∈ b.recs, r.ok) (hb : ∀ r ∈ b.recs, (∀ x ∈ r.key, x < 256) ∧ (∀ x ∈ r.val, x < 256)) : ∀ x ∈ b.summed, x < 256 := by
  have hfirst : 0 ≤ Bat.first b.recs ∧ Bat.first b.recs ≤ 1125899906842624 := by
    cases hr : b.recs with
    | nil => exact ⟨Int.le_refl 0, by show (0 : Int) ≤ 1125899906842624; omega⟩
    | cons r rs =>
      have := ho r (by rw [hr]; exact List.mem_cons_self ..)
      exact ⟨this.1, this.2.1⟩
  intro x hx
  unfold Bat.summed Bat.body Bat.head at hx
  simp only [List.mem_append] at hx
  rcases hx with (((((q | q) | q) | q) | q) | q) | q
  · exact wire.be_byte _ _ x q
  · exact wire.be_byte _ _ x q
  · exact wire.be_byte _ _ x q
  · exact wire.be_byte _ _ x q
  · exact wire.be_byte _ _ x q
  · exact wire.be_byte _ _ x q
  · obtain ⟨l, hl, hxl⟩ := List.mem_flatten.1 q
    obtain ⟨r, hr, rfl⟩ := List.mem_map.1 hl
    have hr := List.mem_of_mem_take hr
    exact Rec.bytes_byte (ho r hr) (hb r hr).1 (hb r hr).2 hfirst.1 hfirst.2 hm.1 hm.2.1 x hxl

set_option maxRecDepth 20000 in
set_option maxHeartbeats 2000000 in
theorem bat.encode_any (b : Bat) (A : Option Addr) (c : Nat) (w : World) (hv : RecsV w (.slice A b.recs.length c) b.recs) (hck : b.check = 0) :
    Calls Try.prog 26 #[b.hval A b.recs.length c] w fun e w' => (∃ v, e = .returned (.tuple #[v, .int .i64 0]) ∧ w'.ownsRow w.heap.size 5 1 v b.bytes.length (u8s b.bytes)) ∧ Below w.heap.size w w' := by
  obtain ⟨hmay, h100, hok, hsize⟩ := Bat.check_ok hck
  obtain ⟨m0, m1, m2, m3, m4, m5, m6, m7, m8, m9, -⟩ := id hmay
  have hfirst : 0 ≤ Bat.first b.recs ∧ Bat.first b.recs ≤ 1125899906842624 := by
    cases hr : b.recs with
    | nil => exact ⟨Int.le_refl 0, by show (0 : Int) ≤ 1125899906842624; omega⟩
    | cons r rs =>
      have := hok r (by rw [hr]; exact List.mem_cons_self ..)
      exact ⟨this.1, this.2.1⟩
  have HSB := Lib.hid (Bat.summed_byte hmay hok hv.byte)
  have HOK := Lib.hid hok
  have HBL := Lib.hid (fun k => b.body_le hok h100 k); clear hok hsize hmay
  have HCK := Lib.hid hck; clear hck
  have HV := Lib.hid hv; clear hv
  have hck2 := fun wx (h : Below w.heap.size w wx) => bat.check_any b A c wx (HV.out.below h (Nat.le_refl _))
  have HCK2 := Lib.hid hck2; clear hck2
  have htm := fun wx (h : Below w.heap.size w wx) => bat.times_any b A c wx (HV.out.below h (Nat.le_refl _))
  have HTM := Lib.hid htm; clear htm
  unfold Bat.hval at *
  go_enter Try.func26, Try.ntmps26
  go_wp2_with fail
  obtain ⟨w1, hw1⟩ : ∃ w1, w1 = w.alloc (.cells #[.int .i64 b.base, .int .i64 b.last, .int .i64 b.prod, .int .i64 b.epoch, .int .i64 b.seq, .slice A b.recs.length c] 42) := ⟨_, rfl⟩
  rw [← hw1]
  have hbk : Blk w1 w.heap.size 42 #[.int .i64 b.base, .int .i64 b.last, .int .i64 b.prod, .int .i64 b.epoch, .int .i64 b.seq, .slice A b.recs.length c] := by rw [hw1]; exact Blk.new _ _ _
  have hb1 : Below w.heap.size w w1 := by rw [hw1]; exact (Below.refl _ w).alloc (Nat.le_refl _) _
  clear hw1
  refine (HCK2.out w1 hb1).mono ?_
  rw [HCK.out]
  rintro e wa ⟨rfl, hba⟩
  have hbka := (chg_of (P := fun _ => False) hba).blk hbk id
  have hb1a := hb1.trans (hba.mono hb1.size)
  have q0 : wa.cell? ⟨w.heap.size, 0, none⟩ = some (.int .i64 b.base) := hbka.cell 0 rfl
  have q1 : wa.cell? ⟨w.heap.size, 1, none⟩ = some (.int .i64 b.last) := hbka.cell 1 rfl
  have q2 : wa.cell? ⟨w.heap.size, 2, none⟩ = some (.int .i64 b.prod) := hbka.cell 2 rfl
  have q3 : wa.cell? ⟨w.heap.size, 3, none⟩ = some (.int .i64 b.epoch) := hbka.cell 3 rfl
  have q4 : wa.cell? ⟨w.heap.size, 4, none⟩ = some (.int .i64 b.seq) := hbka.cell 4 rfl
  have q5 : wa.cell? ⟨w.heap.size, 5, none⟩ = some (.slice A b.recs.length c) := hbka.cell 5 rfl
  have HBKA := Lib.hid hbka
  have HB1A := Lib.hid hb1a
  clear hb1 hbk hba hbka hb1a
  go_wp2_with fail
  refine (HTM.out wa HB1A.out).mono ?_
  rintro e w2 ⟨rfl, hb2⟩
  clear q0 q1 q2 q3 q4 q5
  have HBK := Lib.hid ((chg_of (P := fun _ => False) hb2).blk HBKA.out id)
  have HB2 := Lib.hid (HB1A.out.trans (hb2.mono HB1A.out.size)); clear hb2
  clear HBKA HB1A
  obtain ⟨F, hF⟩ : ∃ F, F = Bat.first b.recs := ⟨_, rfl⟩
  rw [← hF] at hfirst ⊢
  have HF := Lib.hid hF; clear hF
  go_wp2_with fail
  obtain ⟨w3, hw3⟩ : ∃ w3, w3 = w2.alloc (.cells #[.slice none 0 0, .bool false] 102) := ⟨_, rfl⟩
  rw [← hw3]
  have hwr0 : WrL w3 w2.heap.size w2.heap.size [] w3 := by rw [hw3]; exact WrL.start _ rfl
  have hb3 : Below w2.heap.size w2 w3 := by rw [hw3]; exact (Below.refl _ w2).alloc (Nat.le_refl _) _
  clear hw3
  have HB3 := Lib.hid hb3; clear hb3
  have hqlt : w.heap.size < w2.heap.size := HBK.out.lt
  have hbk3 := HBK.out
  have hkeep : ∀ wx, Chg w3 wx (fun k => w2.heap.size ≤ k) → Blk wx w.heap.size 42 #[.int .i64 b.base, .int .i64 b.last, .int .i64 b.prod, .int .i64 b.epoch, .int .i64 b.seq, .slice A b.recs.length c] := fun wx h =>
    h.blk ((chg_of (P := fun _ => False) HB3.out).blk hbk3 id) (fun hh => by omega)
  have HKEEP := Lib.hid hkeep; clear hkeep hbk3
  have q0 : ∀ x : Later w3 (fun k => w2.heap.size ≤ k), x.1.cell? ⟨w.heap.size, 0, none⟩ = some (.int .i64 b.base) := fun x => (HKEEP.out _ x.2).cell 0 rfl
  have q1 : ∀ x : Later w3 (fun k => w2.heap.size ≤ k), x.1.cell? ⟨w.heap.size, 1, none⟩ = some (.int .i64 b.last) := fun x => (HKEEP.out _ x.2).cell 1 rfl
  have q2 : ∀ x : Later w3 (fun k => w2.heap.size ≤ k), x.1.cell? ⟨w.heap.size, 2, none⟩ = some (.int .i64 b.prod) := fun x => (HKEEP.out _ x.2).cell 2 rfl
  have q3 : ∀ x : Later w3 (fun k => w2.heap.size ≤ k), x.1.cell? ⟨w.heap.size, 3, none⟩ = some (.int .i64 b.epoch) := fun x => (HKEEP.out _ x.2).cell 3 rfl
  have q4 : ∀ x : Later w3 (fun k => w2.heap.size ≤ k), x.1.cell? ⟨w.heap.size, 4, none⟩ = some (.int .i64 b.seq) := fun x => (HKEEP.out _ x.2).cell 4 rfl
  have q5 : ∀ x : Later w3 (fun k => w2.heap.size ≤ k), x.1.cell? ⟨w.heap.size, 5, none⟩ = some (.slice A b.recs.length c) := fun x => (HKEEP.out _ x.2).cell 5 rfl
  have HW0 := Lib.hid (hwr0.keep (bdrew (Below.refl _ w3) 1)); clear hwr0
  have hS0 : later w3 (fun k => w2.heap.size ≤ k) w3.drew := later_of ((Chg.refl _ _).drew)
  refine wp_plan (S := fun w0 => ∃ x : Later w3 (fun k => w2.heap.size ≤ k), w0 = x.1) (by kernel_rfl) hS0 ?_
  intro hS K hK
  have HS := Lib.hid hS; clear hS hS0
  refine plan_group [true, true, true, true, true, false, true, false, true, true, false, true, true, false, true, true, false, true, true, true] [0, 1, 2, 3, 4, 6, 8, 9, 11, 12, 14, 15, 17, 18, 19] 6 (by dsimp only [sel]) (by rfl) rfl (by kernel_rfl) (by kernel_rfl) HS.out ?_
  (repeat go_big_quiet_step (fail)); refine wpQuiet_nil ?_
  refine plan_one [false, false, false, false, false, true] 5 5 (by dsimp only [sel]) (by rfl) rfl (by kernel_rfl) ?_; intro K1 hK1; go_wp2_with fail
  refine (WrL.fixed HW0.out (by simp) (b.last - b.base) 8 (by omega) (by omega) (by omega) (by unfold wire.fit; simp; omega) (by omega)).mono ?_
  rintro e y1 ⟨rfl, hy1⟩
  have HW1 := Lib.hid hy1; clear hy1
  go_wp2_with fail
  refine ⟨later_of HW1.out.2.1, ?_⟩
  refine plan_one [false, false, false, false, false, false, false, true] 7 4 (by dsimp only [sel]) (by rfl) rfl (by kernel_rfl) ?_; intro K1 hK1; go_wp2_with fail
  refine (WrL.fixed HW1.out (by simp [wire.be_len]) F 8 (by omega) (by omega) (by omega) (by unfold wire.fit; simp; omega) (by omega)).mono ?_
  rintro e y2 ⟨rfl, hy2⟩
  have HW2 := Lib.hid hy2; clear hy2
  go_wp2_with fail
  refine ⟨later_of HW2.out.2.1, ?_⟩
  refine plan_one [false, false, false, false, false, false, false, false, false, false, true] 10 3 (by dsimp only [sel]) (by rfl) rfl (by kernel_rfl) ?_; intro K1 hK1; go_wp2_with fail
  refine (WrL.fixed HW2.out (by simp [wire.be_len]) b.prod 8 (by omega) (by omega) (by omega) (by unfold wire.fit; simp; omega) (by omega)).mono ?_
  rintro e y3 ⟨rfl, hy3⟩
  have HW3 := Lib.hid hy3; clear hy3
  go_wp2_with fail
  refine ⟨later_of HW3.out.2.1, ?_⟩
  refine plan_one [false, false, false, false, false, false, false, false, false, false, false, false, false, true] 13 2 (by dsimp only [sel]) (by rfl) rfl (by kernel_rfl) ?_; intro K1 hK1; go_wp2_with fail
  refine (WrL.fixed HW3.out (by simp [wire.be_len]) b.epoch 2 (by omega) (by omega) (by omega) (by unfold wire.fit; simp; omega) (by omega)).mono ?_
  rintro e y4 ⟨rfl, hy4⟩
  have HW4 := Lib.hid hy4; clear hy4
  go_wp2_with fail
  refine ⟨later_of HW4.out.2.1, ?_⟩
  refine plan_one [false, false, false, false, false, false, false, false, false, false, false, false, false, false, false, false, true] 16 1 (by dsimp only [sel]) (by rfl) rfl (by kernel_rfl) ?_; intro K1 hK1; go_wp2_with fail
  refine (WrL.fixed HW4.out (by simp [wire.be_len]) b.seq 4 (by omega) (by omega) (by omega) (by unfold wire.fit; simp; omega) (by omega)).mono ?_
  rintro e y5 ⟨rfl, hy5⟩
  have HW5 := Lib.hid hy5; clear hy5
  go_wp2_with fail
  refine ⟨later_of HW5.out.2.1, ?_⟩
  refine plan_one [false, false, false, false, false, false, false, false, false, false, false, false, false, false, false, false, false, false, false, false, true] 20 0 (by dsimp only [sel]) (by rfl) rfl (by kernel_rfl) ?_; intro K1 hK1; go_wp2_with fail
  refine (WrL.fixed HW5.out (by simp [wire.be_len]) (b.recs.length : Int) 4 (by omega) (by omega) (by omega) (by unfold wire.fit; simp; omega) (by omega)).mono ?_
  rintro e y6 ⟨rfl, hy6⟩
  have HW6 := Lib.hid hy6; clear hy6
  go_wp2_with fail
  refine ⟨later_of HW6.out.2.1, ?_⟩
  refine wp_plan_end (by kernel_rfl) ?_
  clear q0 q1 q2 q3 q4 HW0 HW1 HW2 HW3 HW4 HW5 HS
  have hhd : WrL w3 w2.heap.size w2.heap.size (b.body 0) y6 := by
    have h := HW6.out
    rw [List.nil_append, Int.toNat_natCast] at h
    unfold Bat.body Bat.head
    rw [← HF.out, List.take_zero, List.map_nil, List.flatten_nil, List.append_nil]
    exact h
  have HW := Lib.hid hhd; clear hhd HW6
  have c5 : y6.cell? ⟨w.heap.size, 5, none⟩ = some (.slice A b.recs.length c) := (HKEEP.out _ HW.out.2.1).cell 5 rfl
  go_wp2_with fail
  go_loopw [49] (fun i wr => ∃ j : Nat, j ≤ b.recs.length ∧ i = .int .i64 (j : Int) ∧ WrL w3 w2.heap.size w2.heap.size (b.body j) wr) (fun i _ => b.recs.length - (intOf i).toNat)
  case atStart => exact ⟨0, by omega, rfl, HW.out⟩
  case round =>
    obtain ⟨j, hj, rfl, hwl⟩ := hrel
    have HWL := Lib.hid hwl; clear hwl
    have hbw : Below w.heap.size w wr := HB2.out.trans (((chg_of (P := fun _ => False) HB3.out).trans HWL.out.2.1 (fun k hk h => by have h : w2.heap.size ≤ k := h; omega)).below HB2.out.size fun _ q => q.elim)
    have HBW := Lib.hid hbw; clear hbw
    have hsz : w2.heap.size < wr.heap.size := by have := HWL.out.2.1.size; have := HB3.out.size; have := HWL.out.1; obtain ⟨v, q⟩ := this; exact q.blk.lt
    by_cases hlt : j < b.recs.length
    · obtain ⟨x, hx⟩ : ∃ x, b.recs[j]? = some x := ⟨_, List.getElem?_eq_getElem hlt⟩
      obtain ⟨p, off, c', kv, vv, hA, -, -, hp, d0, d1, d2, d3, d4, d5, hk, hvv, -, -⟩ := (HV.out.below HBW.out (Nat.le_refl _)).at' hx
      obtain ⟨rfl, rfl⟩ : A = some ⟨p, off, none⟩ ∧ c = c' := by simpa using hA
      obtain ⟨p', off', c'', kv', vv', hA', -, -, hp', e0, e1, e2, e3, e4, e5, hk', hvv', -, -⟩ := HV.out.at' hx
      obtain ⟨⟨rfl, rfl⟩, -⟩ : (p = p' ∧ off = off') ∧ c = c'' := by simpa using hA'
      obtain rfl : kv = kv' := Option.some.inj (d3.symm.trans ((HBW.out.cell hp').trans e3))
      obtain rfl : vv = vv' := Option.some.inj (d5.symm.trans ((HBW.out.cell hp').trans e5))
      obtain ⟨Ak, ck, rfl, hak, -, -, -⟩ := hk
      obtain ⟨Av, cv, rfl, hav, -, -, -⟩ := hvv
      have hkw : 0 < x.key.length → ∀ q o, Ak = some ⟨q, o, none⟩ → q < w2.heap.size := fun h0 q o hq => by
        obtain ⟨A2, c2, h1, h2, -⟩ := hk'
        obtain ⟨b2, o2, h3, h4, -⟩ := h2 h0
        obtain rfl : Ak = A2 := by simpa using (Value.slice.inj h1).1
        rw [hq] at h3
        obtain rfl : q = b2 := by simpa using congrArg (fun a : Option Addr => a.map Addr.block) h3
        omega
      have hvw : 0 < x.val.length → ∀ q o, Av = some ⟨q, o, none⟩ → q < w2.heap.size := fun h0 q o hq => by
        obtain ⟨A2, c2, h1, h2, -⟩ := hvv'
        obtain ⟨b2, o2, h3, h4, -⟩ := h2 h0
        obtain rfl : Av = A2 := by simpa using (Value.slice.inj h1).1
        rw [hq] at h3
        obtain rfl : q = b2 := by simpa using congrArg (fun a : Option Addr => a.map Addr.block) h3
        omega
      have HKW := Lib.hid (And.intro hkw hvw); clear hkw hvw hk' hvv' hA' e0 e1 e2 e3 e4 e5 hp'
      have HAK := Lib.hid (And.intro hak hav); clear hak hav
      have hxo := HOK.out x (List.mem_of_getElem? hx)
      have hbsucc := b.body_succ j x hx
      have hbd := Rec.body_le hxo F b.base
      have hbl := HBL.out j
      rw [← HF.out] at hbsucc
      have hcall := fun wx => bat.body_any x Ak ck Av cv F b.base wx ⟨hxo.1, hxo.2.1⟩ hfirst ⟨hxo.2.2.1, hxo.2.2.2.1⟩ ⟨m0, m1⟩ (by have := hxo.2.2.2.2.1; omega) (by have := hxo.2.2.2.2.2; omega)
      unfold Rec.hval at hcall
      have hkl := hxo.2.2.2.2.1
      have hvl := hxo.2.2.2.2.2
      have ht0 := hxo.1
      have ht1 := hxo.2.1
      have ho0 := hxo.2.2.1
      have ho1 := hxo.2.2.2.1
      clear hA hx hxo
      unfold Rec.bytes at hbsucc
      obtain ⟨Y, hY⟩ : ∃ Y, Y = x.body F b.base := ⟨_, rfl⟩
      rw [← hY] at hbd hcall hbsucc
      clear hY
      obtain ⟨L, hL⟩ : ∃ L, L = b.body j := ⟨_, rfl⟩
      rw [← hL] at hbl hbsucc
      have hwl := HWL.out
      rw [← hL] at hwl
      clear hL
      have HBS := Lib.hid hbsucc; clear hbsucc
      have HCALL := Lib.hid hcall; clear hcall
      have HWL2 := Lib.hid hwl; clear hwl
      go_wp2_with fail
      obtain ⟨w9, hw9⟩ : ∃ w9, w9 = wr.alloc (.cells #[.int .i64 x.off, .int .i64 x.time, .bool x.hasKey, .slice Ak x.key.length ck, .bool x.hasVal, .slice Av x.val.length cv] 44) := ⟨_, rfl⟩
      rw [← hw9]
      have hn9 : WrN w9 w2.heap.size w2.heap.size (fun k => k = wr.heap.size) L w9 := by rw [hw9]; exact HWL2.out.alloc _
      have hbx : Blk w9 wr.heap.size 44 #[.int .i64 x.off, .int .i64 x.time, .bool x.hasKey, .slice Ak x.key.length ck, .bool x.hasVal, .slice Av x.val.length cv] := by rw [hw9]; exact Blk.new _ _ _
      have hb9 : Below wr.heap.size wr w9 := by rw [hw9]; exact (Below.refl _ wr).alloc (Nat.le_refl _) _
      clear hw9 d0 d1 d2 d3 d4 d5
      have HBX := Lib.hid hbx; clear hbx
      have HB9 := Lib.hid hb9; clear hb9
      have h39 : Chg w3 w9 (fun k => w2.heap.size ≤ k) := HWL.out.2.1.trans (chg_of (P := fun _ => False) HB9.out) fun _ _ q => q.elim
      have H39 := Lib.hid h39; clear h39
      have hkeep9 : ∀ wx, Chg w9 wx (fun k => w2.heap.size ≤ k ∧ ¬ k = wr.heap.size) → Blk wx w.heap.size 42 #[.int .i64 b.base, .int .i64 b.last, .int .i64 b.prod, .int .i64 b.epoch, .int .i64 b.seq, .slice (some ⟨p, off, none⟩) b.recs.length c] ∧ Blk wx wr.heap.size 44 #[.int .i64 x.off, .int .i64 x.time, .bool x.hasKey, .slice Ak x.key.length ck, .bool x.hasVal, .slice Av x.val.length cv] := fun wx h =>
        ⟨HKEEP.out wx (H39.out.trans h fun _ _ q => q.1), h.blk HBX.out fun q => q.2 rfl⟩
      have HK9 := Lib.hid hkeep9; clear hkeep9
      have p0 : ∀ y : Later w9 (fun k => w2.heap.size ≤ k ∧ ¬ k = wr.heap.size), y.1.cell? ⟨w.heap.size, 0, none⟩ = some (.int .i64 b.base) := fun y => (HK9.out _ y.2).1.cell 0 rfl
      have r0 : ∀ y : Later w9 (fun k => w2.heap.size ≤ k ∧ ¬ k = wr.heap.size), y.1.cell? ⟨wr.heap.size, 0, none⟩ = some (.int .i64 x.off) := fun y => (HK9.out _ y.2).2.cell 0 rfl
      have r1 : ∀ y : Later w9 (fun k => w2.heap.size ≤ k ∧ ¬ k = wr.heap.size), y.1.cell? ⟨wr.heap.size, 1, none⟩ = some (.int .i64 x.time) := fun y => (HK9.out _ y.2).2.cell 1 rfl
      have r2 : ∀ y : Later w9 (fun k => w2.heap.size ≤ k ∧ ¬ k = wr.heap.size), y.1.cell? ⟨wr.heap.size, 2, none⟩ = some (.bool x.hasKey) := fun y => (HK9.out _ y.2).2.cell 2 rfl
      have r3 : ∀ y : Later w9 (fun k => w2.heap.size ≤ k ∧ ¬ k = wr.heap.size), y.1.cell? ⟨wr.heap.size, 3, none⟩ = some (.slice Ak x.key.length ck) := fun y => (HK9.out _ y.2).2.cell 3 rfl
      have r4 : ∀ y : Later w9 (fun k => w2.heap.size ≤ k ∧ ¬ k = wr.heap.size), y.1.cell? ⟨wr.heap.size, 4, none⟩ = some (.bool x.hasVal) := fun y => (HK9.out _ y.2).2.cell 4 rfl
      have r5 : ∀ y : Later w9 (fun k => w2.heap.size ≤ k ∧ ¬ k = wr.heap.size), y.1.cell? ⟨wr.heap.size, 5, none⟩ = some (.slice Av x.val.length cv) := fun y => (HK9.out _ y.2).2.cell 5 rfl
      have HN9 := Lib.hid (hn9.keep (bdrew (Below.refl _ w9) 1)); clear hn9
      have hS0 : later w9 (fun k => w2.heap.size ≤ k ∧ ¬ k = wr.heap.size) w9.drew := later_of ((Chg.refl _ _).drew)
      refine wp_plan (S := fun w0 => ∃ x : Later w9 (fun k => w2.heap.size ≤ k ∧ ¬ k = wr.heap.size), w0 = x.1) (by kernel_rfl) hS0 ?_
      intro hS K5 hK5
      have HS := Lib.hid hS; clear hS hS0
      refine plan_group [true, true, true, true, false, false, true, true, true, true, false, true, true, true, true, true] [0, 1, 2, 3, 6, 7, 8, 9, 11, 12, 13, 14, 15] 4 (by dsimp only [sel]) (by rfl) rfl (by kernel_rfl) (by kernel_rfl) HS.out ?_
      (repeat go_big_quiet_step (fail)); refine wpQuiet_nil ?_
      refine plan_one [false, false, false, false, true] 4 3 (by dsimp only [sel]) (by rfl) rfl (by kernel_rfl) ?_; intro K1 hK1; go_wp2_with fail
      refine (HCALL.out _).mono ?_
      rintro e z1 ⟨rfl, hz1⟩
      have HN1 := Lib.hid (HN9.out.keep hz1); clear hz1
      go_wp2_with fail
      refine ⟨later_of HN1.out.2.2.2.1, ?_⟩
      refine plan_one [false, false, false, false, false, true] 5 2 (by dsimp only [sel]) (by rfl) rfl (by kernel_rfl) ?_; intro K1 hK1; go_wp2_with fail
      refine (WrN.num HN1.out (by omega) Y (by omega) (by omega)).mono ?_
      rintro e z2 ⟨rfl, hz2⟩
      have HN2 := Lib.hid hz2; clear hz2
      go_wp2_with fail
      refine ⟨later_of HN2.out.2.2.2.1, ?_⟩
      refine plan_one [false, false, false, false, false, false, false, false, false, false, true] 10 1 (by dsimp only [sel]) (by rfl) rfl (by kernel_rfl) ?_; intro K1 hK1; go_wp2_with fail
      refine (WrN.num HN2.out (by have := num.put_bd Y; simp only [List.length_append]; omega) (x.time - F) (by omega) (by omega)).mono ?_
      rintro e z3 ⟨rfl, hz3⟩
      have HN3 := Lib.hid hz3; clear hz3
      go_wp2_with fail
      refine ⟨later_of HN3.out.2.2.2.1, ?_⟩
      refine plan_one [false, false, false, false, false, false, false, false, false, false, false, false, false, false, false, false, true] 16 0 (by dsimp only [sel]) (by rfl) rfl (by kernel_rfl) ?_; intro K1 hK1; go_wp2_with fail
      refine (WrN.num HN3.out (by have := num.put_bd Y; have := num.put_bd (x.time - F); simp only [List.length_append]; omega) (x.off - b.base) (by omega) (by omega)).mono ?_
      rintro e z4 ⟨rfl, hz4⟩
      have HN4 := Lib.hid hz4; clear hz4
      go_wp2_with fail
      refine ⟨later_of HN4.out.2.2.2.1, ?_⟩
      refine wp_plan_end (by kernel_rfl) ?_
      clear p0 r0 r1 r2 r3 r4 r5
      have hat4 : ∀ wx, Chg w9 wx (fun k => w2.heap.size ≤ k ∧ ¬ k = wr.heap.size) → At wx Ak x.key.length (byteAt x.key) ∧ At wx Av x.val.length (byteAt x.val) := fun wx h =>
        ⟨h.at' (HAK.out.1.below HB9.out (Nat.le_refl _)) fun h0 q o hq hh => by have := HKW.out.1 h0 q o hq; omega, h.at' (HAK.out.2.below HB9.out (Nat.le_refl _)) fun h0 q o hq hh => by have := HKW.out.2 h0 q o hq; omega⟩
      have HAT4 := Lib.hid hat4; clear hat4
      have hl4 : (L ++ num.put Y ++ num.put (x.time - F) ++ num.put (x.off - b.base)).length ≤ 225100 := by
        have := num.put_bd Y
        have := num.put_bd (x.time - F)
        have := num.put_bd (x.off - b.base)
        simp only [List.length_append]
        omega
      obtain ⟨L4, hL4⟩ : ∃ L4, L4 = L ++ num.put Y ++ num.put (x.time - F) ++ num.put (x.off - b.base) := ⟨_, rfl⟩
      have hn4 := HN4.out
      rw [← hL4] at hn4 hl4
      have HN4' := Lib.hid hn4; clear hn4 HN4
      have HL4 := Lib.hid hL4; clear hL4
      have s2 : z4.cell? ⟨wr.heap.size, 2, none⟩ = some (.bool x.hasKey) := (HK9.out _ HN4'.out.2.2.2.1).2.cell 2 rfl
      have s3 : z4.cell? ⟨wr.heap.size, 3, none⟩ = some (.slice Ak x.key.length ck) := (HK9.out _ HN4'.out.2.2.2.1).2.cell 3 rfl
      go_wp2_with fail
      refine (bat.field_any HN4'.out x.hasKey Ak ck x.key (by omega) (HAT4.out _ HN4'.out.2.2.2.1).1 HKW.out.1).mono ?_
      rintro e z5 ⟨rfl, hz5⟩
      have HN5 := Lib.hid hz5; clear hz5 s2 s3
      have s4 : z5.cell? ⟨wr.heap.size, 4, none⟩ = some (.bool x.hasVal) := (HK9.out _ HN5.out.2.2.2.1).2.cell 4 rfl
      have s5 : z5.cell? ⟨wr.heap.size, 5, none⟩ = some (.slice Av x.val.length cv) := (HK9.out _ HN5.out.2.2.2.1).2.cell 5 rfl
      go_wp2_with fail
      refine (bat.field_any HN5.out x.hasVal Av cv x.val (by have := bat.field_le x.hasKey x.key; simp only [List.length_append]; omega) (HAT4.out _ HN5.out.2.2.2.1).2 HKW.out.2).mono ?_
      rintro e z6 ⟨rfl, hz6⟩
      have HN6 := Lib.hid hz6; clear hz6 s4 s5
      go_wp2
      go_roundw
      case rel =>
        refine ⟨j + 1, by omega, by go_num, ?_⟩
        have h := HN6.out.back H39.out HWL.out.2.2
        rw [HL4.out] at h
        rw [HBS.out]
        simpa [List.append_assoc] using h
      case measure => simp [intOf]; omega
    · obtain rfl : j = b.recs.length := by omega
      have hbl := HBL.out b.recs.length
      have hsm : b.body b.recs.length = b.summed := rfl
      have hfr : b.bytes = b.front ++ b.summed := rfl
      have hfr2 : b.front = wire.be b.base.toNat 8 ++ wire.be (4 + b.summed.length) 4 ++ wire.be (crc.more 0 b.summed) 4 := rfl
      have hwl := HWL.out
      rw [hsm] at hbl hwl
      clear hsm
      have HFR := Lib.hid hfr; clear hfr
      have HFR2 := Lib.hid hfr2; clear hfr2
      obtain ⟨S, hS⟩ : ∃ S, S = b.summed := ⟨_, rfl⟩
      rw [← hS] at hbl hwl
      have HS := Lib.hid hS; clear hS
      have HWS := Lib.hid hwl; clear hwl
      have c0 : wr.cell? ⟨w.heap.size, 0, none⟩ = some (.int .i64 b.base) := (HKEEP.out _ HWL.out.2.1).cell 0 rfl
      have hblk := HKEEP.out _ HWL.out.2.1
      have HBLK := Lib.hid hblk; clear hblk
      go_wp2_with fail
      refine (WrL.done HWS.out (by omega)).mono ?_
      rintro e w10 ⟨⟨u, rfl, hown⟩, hb10⟩
      obtain ⟨Au, cu, hu, -, -, hatu⟩ := own_bytes hown
      have hult : 0 < S.length → ∀ q o, Au = some ⟨q, o, none⟩ → q < w10.heap.size := fun h0 q o hq => by
        obtain ⟨g, c3, h1, -, -, -, h2, -⟩ := own_pos5 hown h0
        rw [hu] at h1
        obtain ⟨h1, -⟩ := Value.slice.inj h1
        rw [hq] at h1
        obtain rfl : q = g := by simpa using congrArg (fun a : Option Addr => a.map Addr.block) h1
        exact h2
      subst hu
      have HATU := Lib.hid (And.intro hatu hult); clear hatu hult hown
      have HB10 := Lib.hid hb10; clear hb10
      have d0 : w10.cell? ⟨w.heap.size, 0, none⟩ = some (.int .i64 b.base) := ((chg_of (P := fun _ => False) HB10.out).blk HBLK.out id).cell 0 rfl
      clear c0
      have hq10 : w.heap.size < w10.heap.size := by have := HB10.out.size; omega
      go_wp2_with fail
      obtain ⟨w11, hw11⟩ : ∃ w11, w11 = w10.alloc (.cells #[.slice none 0 0, .bool false] 102) := ⟨_, rfl⟩
      rw [← hw11]
      have hwq : WrL w11 w10.heap.size w10.heap.size [] w11 := by rw [hw11]; exact WrL.start _ rfl
      have hb11 : Below w10.heap.size w10 w11 := by rw [hw11]; exact (Below.refl _ w10).alloc (Nat.le_refl _) _
      clear hw11 d0
      have HQ0 := Lib.hid hwq; clear hwq
      have hbase : Below w.heap.size w w11 := (HBW.out.trans (HB10.out.mono HBW.out.size)).trans (hb11.mono (by omega))
      have HB11 := Lib.hid hb11; clear hb11
      have HBASE := Lib.hid hbase; clear hbase
      refine (WrL.fixed HQ0.out (by simp) b.base 8 (by omega) (by omega) (by omega) (by unfold wire.fit; simp; omega) (by omega)).mono ?_
      rintro e w12 ⟨rfl, hy⟩
      have HQ1 := Lib.hid hy; clear hy
      go_wp2_with fail
      refine (WrL.fixed HQ1.out (by simp [wire.be_len]) (4 + (S.length : Int)) 4 (by omega) (by omega) (by omega) (by unfold wire.fit; simp; omega) (by omega)).mono ?_
      rintro e w13 ⟨rfl, hy⟩
      have HQ2 := Lib.hid hy; clear hy
      go_wp2_with fail
      have hat13 : At w13 Au S.length (byteAt S) := HQ2.out.2.1.at' (HATU.out.1.below HB11.out (Nat.le_refl _)) fun h0 q o hq hh => by
        have := HATU.out.2 h0 q o hq
        have hh : w10.heap.size ≤ q := hh
        omega
      have HAT13 := Lib.hid hat13; clear hat13
      obtain ⟨w14, hw14⟩ : ∃ w14, w14 = w13.alloc (.cells #[.slice Au S.length cu] 33) := ⟨_, rfl⟩
      rw [← hw14]
      have hrow : At w14 (some ⟨w13.heap.size, 0, none⟩) 1 (fun _ => .slice Au S.length cu) := by rw [hw14]; exact At.one w13 _ _
      have hby : Bytes w14 (.slice Au S.length cu) S := ⟨Au, cu, rfl, by omega, by rw [hw14]; exact HAT13.out.alloc _, by rw [HS.out]; exact HSB.out⟩
      have hb14 : Below w13.heap.size w13 w14 := by rw [hw14]; exact (Below.refl _ w13).alloc (Nat.le_refl _) _
      clear hw14
      have HQ3 := Lib.hid (HQ2.out.keep hb14); clear hb14
      have HBY := Lib.hid hby; clear hby
      refine (crc.sum_any (some ⟨w13.heap.size, 0, none⟩) 1 1 (fun _ => .slice Au S.length cu) [S] w14 (by omega) rfl hrow (fun j hj => by (obtain rfl : j = 0 := by omega); exact HBY.out)).mono ?_
      rintro e wx ⟨rfl, rfl⟩
      clear hrow
      obtain ⟨C, hC⟩ : ∃ C, C = crc.more 0 S := ⟨_, rfl⟩
      have hCs : crc.sums [S] = C := by rw [hC]; rfl
      have hClt : C < 4294967296 := by rw [hC]; exact crc.more_lt _ _
      rw [hCs]
      clear hCs
      have HC := Lib.hid hC; clear hC
      go_wp2_with fail
      refine (WrL.fixed HQ3.out (by simp [wire.be_len]) (C : Int) 4 (by omega) (by omega) (by omega) (by unfold wire.fit; simp; omega) (by omega)).mono ?_
      rintro e w15 ⟨rfl, hy⟩
      have HQ4 := Lib.hid hy; clear hy
      go_wp2_with fail
      refine (WrL.done HQ4.out (by simp [wire.be_len])).mono ?_
      rintro e w16 ⟨⟨uh, rfl, hownh⟩, hb16⟩
      have hlen : (([] : List Nat) ++ wire.be b.base.toNat 8 ++ wire.be (4 + (S.length : Int)).toNat 4 ++ wire.be ((C : Int)).toNat 4) = b.front := by
        rw [List.nil_append, HFR2.out, HC.out, HS.out, Int.toNat_natCast, show (4 + (b.summed.length : Int)).toNat = 4 + b.summed.length by omega]
      rw [hlen] at hownh
      have hfl : b.front.length = 16 := by rw [HFR2.out]; simp only [List.length_append, wire.be_len]
      rw [hfl] at hownh
      clear hlen
      have HFL := Lib.hid hfl; clear hfl
      have hat16 : At w16 Au S.length (byteAt S) := (HQ4.out.2.1.at' (HATU.out.1.below HB11.out (Nat.le_refl _)) fun h0 q o hq hh => by
        have := HATU.out.2 h0 q o hq
        have hh : w10.heap.size ≤ q := hh
        omega).below hb16 (Nat.le_refl _)
      have HAT16 := Lib.hid hat16; clear hat16
      have hbb : Below w.heap.size w w15 := HBASE.out.trans (HQ4.out.2.1.below HBASE.out.size fun k hk => by have hk : w10.heap.size ≤ k := hk; omega)
      have hs15 := hbb.size
      have hbb2 := hbb.trans (hb16.mono hbb.size)
      have HBB := Lib.hid hbb2; clear hbb2 hbb
      have HOWN := Lib.hid hownh; clear hownh
      have HLE := Lib.hid hb16.size
      clear hb16
      obtain ⟨i0, hi, hz0, hz1, hz2⟩ := info_parts infoByte
      go_wp2_with (at_builtin; go_loud (refine wpList_app2 _ rfl (.tmp 101) (.tmp 102) 33 rfl w15.heap.size 5 i0 _ 1 1 Try.underlying33 hi hz0 hz1 hz2 rfl (by decide) uh 16 (u8s b.front) rfl HOWN.out Au S.length cu (byteAt S) rfl (by rw [Nat.mul_one]; exact HAT16.out) (fun j _ => byteAt_one _ j) (by unfold maxLen; omega) (by omega) HLE.out ?_; intro v' w17 hown7 hg7 hl7; rw [byteAt_cells_n _ _ rfl, ← u8s_append] at hown7; have HO7 := Lib.hid hown7; have HB17 := Lib.hid ((Chg.grown hg7).below (B := w15.heap.size) HLE.out fun k hk => (HOWN.out.lt k hk).1); clear hown7 hg7 hl7))
      have hlen : b.bytes.length = 16 + S.length := by rw [HFR.out, List.length_append, HFL.out, HS.out]
      go_ret2
      refine ⟨⟨v', rfl, ?_⟩, HBB.out.trans (HB17.out.mono hs15)⟩
      rw [hlen, HFR.out, ← HS.out]
      exact ownsRow_base HO7.out hs15
end Go.Proofs.Ytahncanmfjmfnaa

/- commits: what was written is read back; what the law's awake says (chapter 18). -/
import Derived.BigQuiet
import Derived.Test.YtkkpbnhagobhmaaCmO
import Derived.Test.YtkkpbnhagobhmaaCmE
import Derived.Test.YtkkpbnhagobhmaaRdL
namespace Go.Proofs.Ytkkpbnhagobhmaa
open Go.RowKit Go.Maps
set_option maxRecDepth 100000
theorem rd.piece_ctext (s : ByteArray) (Z : List Nat) (most : Int) (hs : (s.size : Int) ≤ most) (hs2 : s.size ≤ 1000000) : rd.piece (cm.text s ++ Z) 0 most = (strNats s, Z, 0) := by
  have h := rd.piece_put (strNats s) Z most (by rw [strNats_len]; omega) (by rw [strNats_len]; exact hs)
  rw [strNats_len] at h
  unfold cm.text
  rw [List.append_assoc]
  exact h
theorem cm.num_ok (n : Int) (h1 : -9223372036854775808 ≤ n) (h2 : n ≤ 9223372036854775807) : cm.numOk (num.put n) = true ∧ (rd.num (num.put n) 0).1 = n := by
  have h := rd.num_put n [] h1 h2
  rw [List.append_nil] at h
  unfold cm.numOk
  rw [h]
  exact ⟨rfl, rfl⟩
theorem cm.one_str (x : UInt8) : strOf (strNats ⟨#[x]⟩) = ⟨#[x]⟩ := strOf_strNats _
theorem CEnt.key_word (e : CEnt) : rd.piece e.key 0 1 = (strNats ⟨#[111]⟩, cm.text e.grp ++ (cm.text e.top ++ num.put e.part), 0) := by
  have h := rd.piece_ctext ⟨#[111]⟩ (cm.text e.grp ++ (cm.text e.top ++ num.put e.part)) 1 (by decide) (by decide)
  unfold CEnt.key
  rw [List.append_assoc, List.append_assoc]
  exact h
theorem CEnt.key_read {e : CEnt} (hp : cm.place e.grp e.top e.part = true) : cm.keyE (cm.text e.grp ++ (cm.text e.top ++ num.put e.part)) 0 = some ⟨e.grp, e.top, e.part, 0⟩ := by
  have hf := cm.place_fit hp
  have h3 := rd.num_put e.part [] (by omega) (by omega)
  rw [List.append_nil] at h3
  unfold cm.keyE
  simp only [rd.piece_ctext e.grp (cm.text e.top ++ num.put e.part) 20 (by omega) (by omega), rd.piece_ctext e.top (num.put e.part) 20 (by omega) (by omega), h3, strOf_strNats, hp, cm.end_, List.isEmpty_nil]
  rfl
theorem CEnt.ok_pl {e : CEnt} (h : e.ok = true) : cm.place e.grp e.top e.part = true := by
  unfold CEnt.ok at h
  simp only [Bool.and_eq_true] at h
  exact h.1.1
theorem cm.act_told {e : CEnt} (now : Int) (h : e.ok = true) : cm.act (e.told now) = some (.put e) := by
  have hf := e.ok_place h
  obtain ⟨n1, n2⟩ := cm.num_ok e.off (by omega) (by omega)
  have hp := CEnt.ok_pl h
  unfold cm.act
  rw [if_neg (by simp [CEnt.told])]
  show (if strOf (rd.piece e.key 0 1).1 = _ then _ else _) = _
  rw [show (e.told now).key = e.key from rfl, e.key_word]
  simp only [cm.one_str, if_true]
  unfold cm.actE
  rw [CEnt.key_read hp]
  simp only [cm.valE, CEnt.told, n1, n2, Bool.true_and, h, if_true]
theorem cm.act_tomb {e : CEnt} (now : Int) (V : List Nat) (h : e.ok = true) : cm.act ⟨0, now, true, e.key, false, V⟩ = some (.del ⟨e.grp, e.top, e.part, 0⟩) := by
  have hp := CEnt.ok_pl h
  unfold cm.act
  rw [if_neg (by simp)]
  simp only [e.key_word, cm.one_str, if_true]
  unfold cm.actE
  rw [CEnt.key_read hp]
  simp [cm.valE]
theorem cm.gkey_word (g : ByteArray) : rd.piece (cm.gkey g) 0 1 = (strNats ⟨#[103]⟩, cm.text g, 0) := rd.piece_ctext ⟨#[103]⟩ (cm.text g) 1 (by decide) (by decide)
theorem cm.keyG_read {g : ByteArray} (hg : g.size ≤ 20) (ht : cm.topic g = true) : cm.keyG (cm.text g) 0 = some g := by
  have h := rd.piece_ctext g [] 20 (by omega) (by omega)
  rw [List.append_nil] at h
  unfold cm.keyG
  simp only [h, strOf_strNats, ht, cm.end_, List.isEmpty_nil]
  rfl
theorem cm.gen_topic {g : ByteArray} {n : Int} (h : cm.gen g n = true) : cm.topic g = true := by
  unfold cm.gen at h
  simp only [Bool.and_eq_true] at h
  exact h.1.1
theorem cm.ne_og : ¬ (⟨#[103]⟩ : ByteArray) = ⟨#[111]⟩ := by decide
theorem cm.act_grec {g : ByteArray} {n : Int} (now : Int) (h : cm.gen g n = true) : cm.act (cm.grec g n now) = some (.up g n) := by
  have hf := cm.gen_facts h
  obtain ⟨n1, n2⟩ := cm.num_ok n (by omega) (by omega)
  unfold cm.act
  rw [if_neg (by simp [cm.grec])]
  simp only [cm.grec, cm.gkey_word, cm.one_str, cm.ne_og, if_true, if_false]
  unfold cm.actG
  rw [cm.keyG_read hf.1 (cm.gen_topic h)]
  simp only [cm.valG, n1, n2, Bool.true_and, h, if_true]
theorem cm.act_gtomb {g : ByteArray} {n : Int} (now : Int) (V : List Nat) (h : cm.gen g n = true) : cm.act ⟨0, now, true, cm.gkey g, false, V⟩ = some (.down g) := by
  have hf := cm.gen_facts h
  unfold cm.act
  rw [if_neg (by simp)]
  simp only [cm.gkey_word, cm.one_str, cm.ne_og, if_true, if_false]
  unfold cm.actG
  rw [cm.keyG_read hf.1 (cm.gen_topic h)]
  simp [cm.valG]
theorem cm.made_any (e : CEnt) (w : World) : Calls Try.prog 12 #[.agg e.cells] w fun en w' => en = .returned (.agg e.cells) ∧ Below w.heap.size w w' := by
  obtain ⟨g, t, p, o⟩ := e
  unfold CEnt.cells
  obtain ⟨b0, hb0⟩ : ∃ b, b = w.heap.size := ⟨_, rfl⟩
  obtain ⟨w1, hw1⟩ : ∃ w1, w1 = w.alloc (.cells #[.string g, .string t, .int .i64 p, .int .i64 o] 24) := ⟨_, rfl⟩
  have hk1 : Blk w1 b0 24 #[.string g, .string t, .int .i64 p, .int .i64 o] := by rw [hw1, hb0]; exact Blk.new _ _ _
  have hb1 : Below w.heap.size w w1 := by rw [hw1]; exact (Below.refl _ _).alloc (Nat.le_refl _) _
  have hs1 : w1.heap.size = b0 + 1 := by rw [hw1, hb0]; simp
  obtain ⟨w2, hw2⟩ : ∃ w2, w2 = w1.alloc (.cells #[.string ⟨#[]⟩, .string ⟨#[]⟩, .int .i64 0, .int .i64 0] 42) := ⟨_, rfl⟩
  have hk2 : Blk w2 b0 24 #[.string g, .string t, .int .i64 p, .int .i64 o] := by rw [hw2]; exact (Chg.alloc w1 _ (fun _ => False)).blk hk1 fun q => q
  have hz2 : Blk w2 (b0 + 1) 42 #[.string ⟨#[]⟩, .string ⟨#[]⟩, .int .i64 0, .int .i64 0] := by rw [hw2, ← hs1]; exact Blk.new _ _ _
  have hb2 : Below w.heap.size w w2 := by rw [hw2]; exact hb1.alloc hb1.size _
  have c0 := hk2.cell 0 (v := .string g) rfl
  have c1 := hk2.cell 1 (v := .string t) rfl
  have c2 := hk2.cell 2 (v := .int .i64 p) rfl
  have c3 := hk2.cell 3 (v := .int .i64 o) rfl
  have cl := hk2.lt
  have H := Lib.hid (And.intro hz2 (And.intro hb2 hb0)); clear hk1 hb1 hk2 hz2 hb2
  go_enter Try.func12, Try.ntmps12
  go_upto_region 1 with fail
  rw [show w.heap.size + 1 = b0 + 1 by rw [hb0], ← hb0, ← hw1, ← hw2]
  clear hw1 hw2 hs1 hb0
  go_wp2_with (refine wpList_store_row rfl 42 (.tmp 2) (.tmp 11) rfl (b0 + 1) #[.string g, .string t, .int .i64 p, .int .i64 o] rfl rfl 42 _ H.out.1 cm.info_entry rfl (by simp [Value.oneCell']) ?_)
  have hz3 := H.out.1.row #[.string g, .string t, .int .i64 p, .int .i64 o]
  have hb3 := H.out.2.1.trans ((Chg.setRow w2 (b0 + 1) #[.string g, .string t, .int .i64 p, .int .i64 o]).below H.out.2.1.size fun k hk => by have hk : k = b0 + 1 := hk; have := H.out.2.2; omega)
  refine bodyPost_ret (results_cell_row rfl _ _ (b0 + 1) 42 _ (0, 0) _ rfl hz3 Try.underlying42 rfl cm.info_entry) rfl ?_
  exact ⟨rfl, hb3⟩
end Go.Proofs.Ytkkpbnhagobhmaa

/- The disk in plain words: Truncate, Sync, Rename, Remove, SyncDir, Cut leave what the program's disk says. -/
import Derived.Test.YthffkbcjidbdaaaDmC
namespace Go.Proofs.Ythffkbcjidbdaaa
open Go.RowKit Go.Maps
set_option maxRecDepth 100000

theorem Sim.truncE {D : Dsk} {M : RDisk} {ι : Nat → Nat} (h : Sim D M ι) (hw : M.WF) (s : ByteArray) (n : Int) : D.truncE s n = M.truncE s n := by
  unfold Dsk.truncE RDisk.truncE
  rw [h.actE]
  by_cases e : M.actE [s] ≠ 0
  · rw [if_pos e, if_pos e]
  rw [if_neg e, if_neg e]
  cases hi : rd.look M.now s with
  | none => rw [h.now_none hi]
  | some i =>
    rw [h.now_some hi]
    dsimp only
    rw [h.file i (hw.lt hi)]
    rfl
theorem Sim.syncE {D : Dsk} {M : RDisk} {ι : Nat → Nat} (h : Sim D M ι) (s : ByteArray) : D.syncE s = M.syncE s := by
  unfold Dsk.syncE RDisk.syncE
  rw [h.actE]
  by_cases e : M.actE [s] ≠ 0
  · rw [if_pos e, if_pos e]
  rw [if_neg e, if_neg e]
  cases hi : rd.look M.now s with
  | none => rw [h.now_none hi]
  | some i => rw [h.now_some hi]
theorem Sim.remE {D : Dsk} {M : RDisk} {ι : Nat → Nat} (h : Sim D M ι) (s : ByteArray) : D.remE s = M.remE s := h.syncE s
theorem Sim.renE {D : Dsk} {M : RDisk} {ι : Nat → Nat} (h : Sim D M ι) (s t : ByteArray) : D.renE s t = M.renE s t := by
  unfold Dsk.renE RDisk.renE
  rw [h.actE]
  by_cases e : M.actE [s, t] ≠ 0
  · rw [if_pos e, if_pos e]
  rw [if_neg e, if_neg e]
  cases hi : rd.look M.now s with
  | none => rw [h.now_none hi]
  | some i => rw [h.now_some hi]
theorem Sim.trunc {D : Dsk} {M : RDisk} {ι : Nat → Nat} (h : Sim D M ι) (hw : M.WF) (s : ByteArray) (n : Int) :
    Sim (D.trunc s n) (M.trunc s n) ι ∧ (M.trunc s n).WF ∧ (M.trunc s n).files.length = M.files.length := by
  have hE := h.truncE hw s n
  unfold Dsk.trunc RDisk.trunc
  unfold Dsk.truncE at hE
  rw [h.actE] at hE ⊢
  by_cases e0 : M.actE [s] ≠ 0
  · rw [if_pos e0] at hE ⊢
    rw [if_pos (by rw [← hE]; exact e0)]
    exact ⟨h.acted, hw.acted, rfl⟩
  rw [if_neg e0] at hE ⊢
  cases hi : rd.look M.now s with
  | none =>
    rw [h.now_none hi] at hE ⊢
    dsimp only at hE ⊢
    rw [if_pos (by rw [← hE]; decide)]
    exact ⟨h.acted, hw.acted, rfl⟩
  | some i =>
    rw [h.now_some hi] at hE ⊢
    dsimp only at hE ⊢
    have hil := hw.lt hi
    rw [h.file i hil] at hE ⊢
    by_cases hb : n < 0 ∨ ((M.file i).data.length : Int) < n
    · rw [if_pos hb] at hE ⊢
      rw [if_pos (by rw [← hE]; decide)]
      exact ⟨h.acted, hw.acted, rfl⟩
    · rw [if_neg hb] at hE ⊢
      rw [if_neg (by rw [← hE]; decide)]
      have hsh := hw.short _ (RDisk.file_mem hil)
      have hlt : ((M.file i).data.take n.toNat).length = n.toNat := by rw [List.length_take]; omega
      have hle := RDisk.len_used hi
      have hfit := hw.fit
      have hu : (M.acted.set i ⟨(M.file i).data.take n.toNat, n.toNat⟩).used = M.used - (((M.file i).data.length : Int) - n) := by
        rw [RDisk.set_used (M := M.acted) hw.acted hi, RDisk.acted_used, RDisk.acted_len]
        unfold RDisk.len
        dsimp only
        rw [hlt]
        omega
      refine ⟨?_, RDisk.set_wf hw.acted ⟨by dsimp only; omega, by dsimp only; omega, fun x hx => hsh.2.2 x (List.mem_of_mem_take hx)⟩, List.length_set⟩
      have := h.acted.set (i := i) hil ⟨(M.file i).data.take n.toNat, n.toNat⟩
      rw [hu] at this
      rw [h.used]
      exact this
theorem Sim.sync {D : Dsk} {M : RDisk} {ι : Nat → Nat} (h : Sim D M ι) (hw : M.WF) (s : ByteArray) :
    Sim (D.sync s) (M.sync s) ι ∧ (M.sync s).WF ∧ (M.sync s).files.length = M.files.length := by
  have hE := h.syncE s
  unfold Dsk.sync RDisk.sync
  unfold Dsk.syncE at hE
  rw [h.actE] at hE ⊢
  by_cases e0 : M.actE [s] ≠ 0
  · rw [if_pos e0] at hE ⊢
    rw [if_pos (by rw [← hE]; exact e0)]
    exact ⟨h.acted, hw.acted, rfl⟩
  rw [if_neg e0] at hE ⊢
  cases hi : rd.look M.now s with
  | none =>
    rw [h.now_none hi] at hE ⊢
    rw [if_pos (by rw [← hE]; decide)]
    exact ⟨h.acted, hw.acted, rfl⟩
  | some i =>
    rw [h.now_some hi] at hE ⊢
    dsimp only at hE ⊢
    have hil := hw.lt hi
    rw [h.file i hil]
    rw [if_neg (by rw [← hE]; decide)]
    have hsh := hw.short _ (RDisk.file_mem hil)
    have hfit := hw.fit
    have hu : (M.acted.set i ⟨(M.file i).data, (M.file i).data.length⟩).used = M.used := by
      rw [RDisk.set_used (M := M.acted) hw.acted hi, RDisk.acted_used, RDisk.acted_len]
      unfold RDisk.len
      dsimp only
      omega
    refine ⟨?_, RDisk.set_wf hw.acted ⟨Nat.le_refl _, hsh.2⟩, List.length_set⟩
    have := h.acted.set (i := i) hil ⟨(M.file i).data, (M.file i).data.length⟩
    rw [hu, ← h.used] at this
    exact this
theorem rd.snd_inj {l : RNames} (hn : (l.map Prod.snd).Nodup) {x y : ByteArray × Nat} (hx : x ∈ l) (hy : y ∈ l) (e : x.2 = y.2) : x = y := by
  induction l with
  | nil => cases hx
  | cons z l ih =>
    rw [List.map_cons, List.nodup_cons] at hn
    rcases List.mem_cons.1 hx with e1 | h1
    · rcases List.mem_cons.1 hy with e2 | h2
      · rw [e1, e2]
      · exact absurd (by rw [← e1, e]; exact List.mem_map_of_mem h2) hn.1
    · rcases List.mem_cons.1 hy with e2 | h2
      · exact absurd (by rw [← e2, ← e]; exact List.mem_map_of_mem h1) hn.1
      · exact ih hn.2 h1 h2
theorem Sim.rem {D : Dsk} {M : RDisk} {ι : Nat → Nat} (h : Sim D M ι) (hw : M.WF) (s : ByteArray) :
    Sim (D.rem s) (M.rem s) ι ∧ (M.rem s).WF ∧ (M.rem s).files.length = M.files.length := by
  have hE := h.remE s
  unfold Dsk.rem RDisk.rem
  unfold Dsk.remE at hE
  rw [h.actE] at hE ⊢
  by_cases e0 : M.actE [s] ≠ 0
  · rw [if_pos e0] at hE ⊢
    rw [if_pos (by rw [← hE]; exact e0)]
    exact ⟨h.acted, hw.acted, rfl⟩
  rw [if_neg e0] at hE ⊢
  cases hi : rd.look M.now s with
  | none =>
    rw [h.now_none hi] at hE ⊢
    rw [if_pos (by rw [← hE]; decide)]
    exact ⟨h.acted, hw.acted, rfl⟩
  | some i =>
    rw [h.now_some hi] at hE ⊢
    dsimp only at hE ⊢
    have hil := hw.lt hi
    rw [h.file i hil]
    rw [if_neg (by rw [← hE]; decide)]
    have hs := RDisk.actE_ok (by simpa using e0) s (by simp)
    have hfit := hw.fit
    have hle := RDisk.len_used hi
    have hok : RAct.ok ⟨3, s, dk.no, 0⟩ M.acted.files.length := ⟨.inr (.inr rfl), hs, fun q => (by cases q), fun q => absurd rfl q⟩
    have happ : rd.apply M.acted.now ⟨3, s, dk.no, 0⟩ = rd.without M.now s := by
      unfold rd.apply
      rw [if_neg (show ¬ (3 : Nat) = 1 by decide), if_neg (show ¬ (3 : Nat) = 2 by decide)]
      rfl
    have hu : (M.acted.lead ⟨3, s, dk.no, 0⟩).used = M.used - ((M.file i).data.length : Int) := by
      have e1 : (M.acted.lead ⟨3, s, dk.no, 0⟩).used = rd.sum M.len (rd.without M.now s) := by rw [← happ]; rfl
      rw [e1, rd.sum_without _ hw.rise, hi]
      rfl
    refine ⟨?_, RDisk.lead_wf hw.acted hok ?_, rfl⟩
    · have := h.acted.lead hok
      rw [hu, ← h.used] at this
      exact this
    · rw [happ]
      exact List.Nodup.sublist (List.Sublist.map Prod.snd List.filter_sublist) hw.nodup
theorem Sim.len {D : Dsk} {M : RDisk} {ι : Nat → Nat} (h : Sim D M ι) (hw : M.WF) (t : ByteArray) : (D.len t : Int) = ((rd.look M.now t).map M.len).getD 0 := by
  unfold Dsk.len
  cases hi : rd.look M.now t with
  | none => rw [h.now_none hi]; rfl
  | some i =>
    rw [h.now_some hi]
    dsimp only
    rw [h.file i (hw.lt hi)]
    rfl
theorem Sim.ren {D : Dsk} {M : RDisk} {ι : Nat → Nat} (h : Sim D M ι) (hw : M.WF) (s t : ByteArray) :
    Sim (D.ren s t) (M.ren s t) ι ∧ (M.ren s t).WF ∧ (M.ren s t).files.length = M.files.length := by
  have hE := h.renE s t
  unfold Dsk.ren RDisk.ren
  unfold Dsk.renE at hE
  rw [h.actE] at hE ⊢
  by_cases e0 : M.actE [s, t] ≠ 0
  · rw [if_pos e0] at hE ⊢
    rw [if_pos (by rw [← hE]; exact e0)]
    exact ⟨h.acted, hw.acted, rfl⟩
  rw [if_neg e0] at hE ⊢
  cases hi : rd.look M.now s with
  | none =>
    rw [h.now_none hi] at hE ⊢
    dsimp only at hE ⊢
    rw [if_pos (by rw [← hE]; decide)]
    exact ⟨h.acted, hw.acted, rfl⟩
  | some i =>
    rw [h.now_some hi] at hE ⊢
    dsimp only at hE ⊢
    have hil := hw.lt hi
    by_cases hst : s = t
    · rw [if_pos hst] at hE ⊢
      rw [if_pos (by rw [← hE]; decide)]
      exact ⟨h.acted, hw.acted, rfl⟩
    rw [if_neg hst] at hE ⊢
    rw [if_neg (by rw [← hE]; decide)]
    have hs := RDisk.actE_ok (by simpa using e0) s (by simp)
    have ht := RDisk.actE_ok (by simpa using e0) t (by simp)
    have hfit := hw.fit
    have hok : RAct.ok ⟨2, s, t, i⟩ M.acted.files.length := ⟨.inr (.inl rfl), hs, fun _ => ht, fun _ => hil⟩
    have happ : rd.apply M.acted.now ⟨2, s, t, i⟩ = rd.ins (rd.without (rd.without M.now s) t) t i := by
      unfold rd.apply
      rw [if_neg (show ¬ (2 : Nat) = 1 by decide), if_pos (show (2 : Nat) = 2 by decide)]
      rfl
    have hpos : 0 ≤ ((rd.look M.now t).map M.len).getD 0 := by
      cases rd.look M.now t with
      | none => exact Int.le_refl _
      | some j => exact M.len_pos j
    have hu : (M.acted.lead ⟨2, s, t, i⟩).used = M.used - ((rd.look M.now t).map M.len).getD 0 := by
      have e1 : (M.acted.lead ⟨2, s, t, i⟩).used = rd.sum M.len (rd.ins (rd.without (rd.without M.now s) t) t i) := by rw [← happ]; rfl
      rw [e1, rd.sum_ins, rd.sum_without _ (rd.rises_without hw.rise s), rd.sum_without _ hw.rise, rd.look_without, if_neg (fun q => hst q.symm), hi]
      show M.len i + (M.used - M.len i - _) = _
      omega
    refine ⟨?_, RDisk.lead_wf hw.acted hok ?_, rfl⟩
    · have := h.acted.lead hok
      rw [hu, ← h.used, ← h.len hw] at this
      exact this
    · rw [happ]
      refine ((rd.ins_perm _ t i).map Prod.snd).symm.nodup ?_
      rw [List.map_cons, List.nodup_cons]
      refine ⟨fun hm => ?_, List.Nodup.sublist (List.Sublist.map Prod.snd (List.filter_sublist.trans List.filter_sublist)) hw.nodup⟩
      obtain ⟨x, hx, e⟩ := List.mem_map.1 hm
      obtain ⟨hx, -⟩ := rd.mem_without.1 hx
      obtain ⟨hx, hxs⟩ := rd.mem_without.1 hx
      exact hxs (by rw [rd.snd_inj hw.nodup hx (rd.look_mem hi) e])
theorem Sim.dir {D : Dsk} {M : RDisk} {ι : Nat → Nat} (h : Sim D M ι) (hw : M.WF) : Sim D.dir M.dir ι ∧ M.dir.WF ∧ M.dir.files.length = M.files.length := by
  unfold Dsk.dir RDisk.dir
  rw [h.actE]
  by_cases e0 : M.actE [] ≠ 0
  · rw [if_pos e0, if_pos e0]
    exact ⟨h.acted, hw.acted, rfl⟩
  rw [if_neg e0, if_neg e0]
  have ha := h.acted
  have hwa := hw.acted
  refine ⟨⟨ha.room, ha.used, ha.ops, ha.off, ha.cut, ha.now, fun s => ?_, rfl, ha.file, ha.inj⟩, ⟨hwa.rise, hwa.rise, hwa.nodup, hwa.good, hwa.good, fun a hx => (by cases hx), rfl, hwa.short, hwa.fit, hwa.left⟩, rfl⟩
  show dk.run D.safe D.since s = (rd.look M.now s).map ι
  rw [h.since, hw.runs]
  exact rd.run hw.acts h.safe s
theorem Sim.cutAt {D : Dsk} {M : RDisk} {ι : Nat → Nat} (h : Sim D M ι) (hw : M.WF) {n : Int} (hn : n ≤ 9223372036854775807) : Sim (D.cutAt n) (M.cutAt n) ι ∧ (M.cutAt n).WF ∧ (M.cutAt n).files.length = M.files.length := by
  refine ⟨⟨h.room, h.used, h.ops, h.off, .inr ⟨rfl, ?_, rfl⟩, h.now, h.safe, h.since, h.file, h.inj⟩, ⟨hw.rise, hw.rises, hw.nodup, hw.good, hw.goods, hw.acts, hw.runs, hw.short, hw.fit, ?_⟩, rfl⟩
  · show 0 ≤ if n < 0 then 0 else n
    split <;> omega
  · show -1 ≤ (if n < 0 then 0 else n) ∧ (if n < 0 then 0 else n) ≤ 9223372036854775807
    split <;> omega
def RDisk.new (room : Int) : RDisk := ⟨room, [], [], [], [], -1, false, 0⟩
theorem Sim.new (room : Int) : Sim (Dsk.new room) (RDisk.new room) id := ⟨rfl, rfl, rfl, rfl, .inl ⟨rfl, rfl⟩, fun _ => rfl, fun _ => rfl, rfl, fun _ hi => absurd hi (Nat.not_lt_zero _), fun _ _ hi => absurd hi (Nat.not_lt_zero _)⟩
theorem RDisk.new_wf {room : Int} (h : 0 ≤ room ∧ room ≤ 1099511627776) : (RDisk.new room).WF := ⟨List.Pairwise.nil, List.Pairwise.nil, List.Pairwise.nil, fun x hx => (by cases hx), fun x hx => (by cases hx), fun x hx => (by cases hx), rfl, fun x hx => (by cases hx), h, by show (-1 : Int) ≤ -1; decide, by show (-1 : Int) ≤ 9223372036854775807; decide⟩
end Go.Proofs.Ythffkbcjidbdaaa

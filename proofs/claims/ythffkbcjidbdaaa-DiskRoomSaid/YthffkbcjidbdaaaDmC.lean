/- The disk in plain words: Append, Truncate, Sync, Rename, Remove, SyncDir, Cut. -/
import Derived.Test.YthffkbcjidbdaaaDmB
namespace Go.Proofs.Ythffkbcjidbdaaa
open Go.RowKit Go.Maps
set_option maxRecDepth 100000

def RDisk.appE (M : RDisk) (s : ByteArray) (b : List Nat) : Int := if M.actE [s] ≠ 0 then M.actE [s] else if M.room < M.used + (b.length : Int) then 4 else 0
/-- A new file. -/
def RDisk.add (M : RDisk) (v : FileV) : RDisk := { M with files := M.files ++ [v] }
def RDisk.app (M : RDisk) (s : ByteArray) (b : List Nat) : RDisk := if M.appE s b ≠ 0 then M.acted else match rd.look M.now s with
  | some i => M.acted.set i ⟨(M.file i).data ++ b, (M.file i).safe⟩
  | none => (M.acted.add ⟨b, 0⟩).lead ⟨1, s, dk.no, M.files.length⟩
def RDisk.truncE (M : RDisk) (s : ByteArray) (n : Int) : Int := if M.actE [s] ≠ 0 then M.actE [s] else match rd.look M.now s with | none => 5 | some i => if n < 0 ∨ M.len i < n then 1 else 0
def RDisk.trunc (M : RDisk) (s : ByteArray) (n : Int) : RDisk := if M.truncE s n ≠ 0 then M.acted else match rd.look M.now s with
  | some i => M.acted.set i ⟨(M.file i).data.take n.toNat, n.toNat⟩
  | none => M.acted
def RDisk.syncE (M : RDisk) (s : ByteArray) : Int := if M.actE [s] ≠ 0 then M.actE [s] else match rd.look M.now s with | none => 5 | some _ => 0
def RDisk.sync (M : RDisk) (s : ByteArray) : RDisk := if M.syncE s ≠ 0 then M.acted else match rd.look M.now s with
  | some i => M.acted.set i ⟨(M.file i).data, (M.file i).data.length⟩
  | none => M.acted
def RDisk.renE (M : RDisk) (s t : ByteArray) : Int := if M.actE [s, t] ≠ 0 then M.actE [s, t] else match rd.look M.now s with | none => 5 | some _ => if s = t then 1 else 0
def RDisk.ren (M : RDisk) (s t : ByteArray) : RDisk := if M.renE s t ≠ 0 then M.acted else match rd.look M.now s with
  | some i => M.acted.lead ⟨2, s, t, i⟩
  | none => M.acted
def RDisk.remE (M : RDisk) (s : ByteArray) : Int := if M.actE [s] ≠ 0 then M.actE [s] else match rd.look M.now s with | none => 5 | some _ => 0
def RDisk.rem (M : RDisk) (s : ByteArray) : RDisk := if M.remE s ≠ 0 then M.acted else M.acted.lead ⟨3, s, dk.no, 0⟩
def RDisk.dir (M : RDisk) : RDisk := if M.actE [] ≠ 0 then M.acted else { M.acted with safe := M.now, acts := [] }
def RDisk.cutAt (M : RDisk) (n : Int) : RDisk := { M with left := if n < 0 then 0 else n }

theorem RDisk.acted_file (M : RDisk) (i : Nat) : M.acted.file i = M.file i := rfl
theorem RDisk.acted_used (M : RDisk) : M.acted.used = M.used := rfl
theorem RDisk.acted_len (M : RDisk) (i : Nat) : M.acted.len i = M.len i := rfl
theorem RDisk.actE_ok {M : RDisk} {L : List ByteArray} (h : M.actE L = 0) : ∀ s ∈ L, dk.okName s = true := by
  unfold RDisk.actE at h
  split at h
  · cases h
  · split at h
    · rename_i h2
      exact List.all_eq_true.1 h2
    · cases h
theorem RDisk.add_file {M : RDisk} {v : FileV} {i : Nat} (h : i < M.files.length) : (M.add v).file i = M.file i := by
  unfold RDisk.add RDisk.file
  dsimp only
  rw [List.getD_eq_getElem?_getD, List.getElem?_append_left h, List.getD_eq_getElem?_getD]
theorem RDisk.add_new {M : RDisk} {v : FileV} : (M.add v).file M.files.length = v := by
  unfold RDisk.add RDisk.file
  simp
theorem RDisk.add_used {M : RDisk} (hw : M.WF) (v : FileV) : (M.add v).used = M.used := rd.sum_congr fun x hx => by
  show ((M.add v).file x.2).data.length = ((M.file x.2).data.length : Int)
  rw [RDisk.add_file (hw.good x hx).1]
theorem RAct.ok.mono {a : RAct} {n m : Nat} (h : a.ok n) (hm : n ≤ m) : a.ok m := ⟨h.1, h.2.1, h.2.2.1, fun q => Nat.lt_of_lt_of_le (h.2.2.2 q) hm⟩
theorem RDisk.add_wf {M : RDisk} (hw : M.WF) {v : FileV} (hv : v.safe ≤ v.data.length ∧ v.data.length ≤ 1099511627776 ∧ ∀ x ∈ v.data, x < 256) : (M.add v).WF := by
  have hl : (M.add v).files.length = M.files.length + 1 := by unfold RDisk.add; simp
  refine ⟨hw.rise, hw.rises, hw.nodup, fun x hx => ⟨by rw [hl]; exact Nat.lt_succ_of_lt (hw.good x hx).1, (hw.good x hx).2⟩, fun x hx => ⟨by rw [hl]; exact Nat.lt_succ_of_lt (hw.goods x hx).1, (hw.goods x hx).2⟩, fun a ha => (hw.acts a ha).mono (by omega), hw.runs, fun u hu => ?_, hw.fit, hw.left⟩
  have hu : u ∈ M.files ++ [v] := hu
  rcases List.mem_append.1 hu with hu | hu
  · exact hw.short u hu
  · rw [List.mem_singleton.1 hu]
    exact hv
theorem Sim.add {D : Dsk} {M : RDisk} {ι : Nat → Nat} (h : Sim D M ι) (hw : M.WF) {f : Nat} (hf : ∀ i, i < M.files.length → ι i ≠ f) (v : FileV) : Sim (dk.setFile D f v) (M.add v) (fun i => if i = M.files.length then f else ι i) := by
  have hl : (M.add v).files.length = M.files.length + 1 := by unfold RDisk.add; simp
  have hlook : ∀ (l : RNames) (s : ByteArray), rd.Good l M.files.length → (rd.look l s).map (fun i => if i = M.files.length then f else ι i) = (rd.look l s).map ι := fun l s hg => by
    cases e : rd.look l s with
    | none => rfl
    | some i =>
      have := (hg _ (rd.look_mem e)).1
      dsimp only at this
      rw [Option.map_some, Option.map_some, if_neg (by omega)]
  refine ⟨h.room, by rw [RDisk.add_used hw]; exact h.used, h.ops, h.off, h.cut, fun s => by rw [show (M.add v).now = M.now from rfl, hlook _ _ hw.good]; exact h.now s, fun s => by rw [show (M.add v).safe = M.safe from rfl, hlook _ _ hw.goods]; exact h.safe s, ?_, fun i hi => ?_, fun i j hi hj e => ?_⟩
  · show D.since = M.acts.map _
    rw [h.since]
    refine List.map_congr_left fun a ha => rd.toD_congr (hw.acts a ha) fun i hi => ?_
    rw [if_neg (by omega)]
  · show (if (if i = M.files.length then f else ι i) = f then v else D.file (if i = M.files.length then f else ι i)) = (M.add v).file i
    by_cases e : i = M.files.length
    · rw [if_pos e, if_pos rfl, e, RDisk.add_new]
    · rw [if_neg e, if_neg (hf i (by omega)), RDisk.add_file (by omega)]
      exact h.file i (by omega)
  · by_cases e1 : i = M.files.length
    · by_cases e2 : j = M.files.length
      · rw [e1, e2]
      · rw [if_pos e1, if_neg e2] at e
        exact absurd e.symm (hf j (by omega))
    · rw [if_neg e1] at e
      by_cases e2 : j = M.files.length
      · rw [if_pos e2] at e
        exact absurd e (hf i (by omega))
      · rw [if_neg e2] at e
        exact h.inj i j (by omega) (by omega) e

theorem Sim.appE {D : Dsk} {M : RDisk} {ι : Nat → Nat} (h : Sim D M ι) (s : ByteArray) (b : List Nat) : D.appE s b = M.appE s b := by
  unfold Dsk.appE RDisk.appE
  rw [h.actE, h.room, h.used]
  by_cases e : M.actE [s] ≠ 0
  · rw [if_pos e, if_pos e]
  · rw [if_neg e, if_neg e]
    by_cases e2 : M.room < M.used + (b.length : Int)
    · rw [if_pos e2, if_pos (by omega)]
    · rw [if_neg e2, if_neg (by omega)]
theorem RDisk.appE_ok {M : RDisk} {s : ByteArray} {b : List Nat} (h : M.appE s b = 0) : dk.okName s = true ∧ M.used + (b.length : Int) ≤ M.room := by
  unfold RDisk.appE at h
  by_cases e : M.actE [s] ≠ 0
  · rw [if_pos e] at h; exact absurd h e
  · rw [if_neg e] at h
    refine ⟨RDisk.actE_ok (by simpa using e) s (by simp), ?_⟩
    split at h
    · cases h
    · omega
theorem RDisk.len_used {M : RDisk} {s : ByteArray} {i : Nat} (hi : rd.look M.now s = some i) : M.len i ≤ M.used := rd.sum_le M.len_pos hi
/-- Append: what it leaves is as the program's disk says. -/
theorem Sim.app {D : Dsk} {M : RDisk} {ι : Nat → Nat} (h : Sim D M ι) (hw : M.WF) {s : ByteArray} {b : List Nat} (hb : ∀ x ∈ b, x < 256) {n f : Nat} (hn : ∀ i, i < M.files.length → ι i < n) (hf : D.Leads s n f) :
    (∃ κ, Sim (D.app s b f) (M.app s b) κ ∧ ∀ i, i < (M.app s b).files.length → κ i < n ∨ (D.app s b f).Has (κ i)) ∧ (M.app s b).WF := by
  have hE := h.appE s b
  unfold Dsk.app RDisk.app
  rw [hE]
  by_cases e : M.appE s b ≠ 0
  · rw [if_pos e, if_pos e]
    exact ⟨⟨ι, h.acted, fun i hi => .inl (hn i hi)⟩, hw.acted⟩
  rw [if_neg e, if_neg e]
  obtain ⟨hs, hroom⟩ := RDisk.appE_ok (by simpa using e)
  have hfit := hw.fit
  cases hi : rd.look M.now s with
  | some i =>
    dsimp only
    have hil := hw.lt hi
    have hnow : D.now s = some (ι i) := h.now_some hi
    have hfi : f = ι i := by
      rcases hf with hf | ⟨hf, -⟩
      · rw [hnow] at hf; simpa using hf.symm
      · rw [hnow] at hf; cases hf
    subst hfi
    have hwith : D.come.with s (ι i) = D.come := Dsk.with_some (g := ι i) hnow
    have hfile : D.come.file (ι i) = M.file i := h.file i hil
    rw [hwith, hfile]
    have hused := RDisk.set_used (M := M.acted) hw.acted hi ⟨(M.file i).data ++ b, (M.file i).safe⟩
    have hu : (M.acted.set i ⟨(M.file i).data ++ b, (M.file i).safe⟩).used = M.used + (b.length : Int) := by
      rw [hused, RDisk.acted_used, RDisk.acted_len]
      unfold RDisk.len
      dsimp only
      rw [List.length_append]
      push_cast
      omega
    have hsh := hw.short _ (RDisk.file_mem hil)
    have hle := RDisk.len_used hi
    unfold RDisk.len at hle
    refine ⟨⟨ι, ?_, fun j hj => .inl (hn j (by
      have e : (M.acted.set i ⟨(M.file i).data ++ b, (M.file i).safe⟩).files.length = M.files.length := List.length_set
      omega))⟩, RDisk.set_wf hw.acted ⟨?_, ?_, fun x hx => ?_⟩⟩
    · have := h.acted.set (i := i) hil ⟨(M.file i).data ++ b, (M.file i).safe⟩
      rw [hu] at this
      rw [h.used]
      exact this
    · dsimp only
      rw [List.length_append]
      omega
    · dsimp only
      rw [List.length_append]
      have := M.used_pos
      omega
    · rcases List.mem_append.1 hx with hx | hx
      · exact hsh.2.2 x hx
      · exact hb x hx
  | none =>
    dsimp only
    have hnow : D.now s = Option.none := h.now_none hi
    have hnf : n ≤ f := by
      rcases hf with hf | ⟨-, hf⟩
      · rw [hnow] at hf; cases hf
      · exact hf
    have hadd := h.acted.add hw.acted (f := f) (fun i hi => by have := hn i hi; omega) ⟨b, 0⟩
    have hvok : (⟨b, 0⟩ : FileV).safe ≤ (⟨b, 0⟩ : FileV).data.length ∧ (⟨b, 0⟩ : FileV).data.length ≤ 1099511627776 ∧ ∀ x ∈ (⟨b, 0⟩ : FileV).data, x < 256 := ⟨Nat.zero_le _, by have := M.used_pos; dsimp only; omega, hb⟩
    have hwadd := RDisk.add_wf hw.acted hvok
    have hl : (M.acted.add ⟨b, 0⟩).files.length = M.files.length + 1 := by unfold RDisk.add RDisk.acted; simp
    have hok : RAct.ok ⟨1, s, dk.no, M.files.length⟩ (M.acted.add ⟨b, 0⟩).files.length := ⟨.inl rfl, hs, fun q => (by cases q), fun _ => (by rw [hl]; exact Nat.lt_succ_self _)⟩
    have happ : rd.apply (M.acted.add ⟨b, 0⟩).now ⟨1, s, dk.no, M.files.length⟩ = rd.ins M.now s M.files.length := by
      unfold rd.apply
      rw [if_pos rfl]
      unfold rd.with
      rw [show rd.without (M.acted.add ⟨b, 0⟩).now s = M.now from rd.without_none hi]
    have hu : ((M.acted.add ⟨b, 0⟩).lead ⟨1, s, dk.no, M.files.length⟩).used = M.used + (b.length : Int) := by
      have e1 : ((M.acted.add ⟨b, 0⟩).lead ⟨1, s, dk.no, M.files.length⟩).used = rd.sum (M.acted.add ⟨b, 0⟩).len (rd.ins M.now s M.files.length) := by rw [← happ]; rfl
      have e2 : rd.sum (M.acted.add ⟨b, 0⟩).len M.now = M.used := RDisk.add_used hw.acted ⟨b, 0⟩
      have e3 : (M.acted.add ⟨b, 0⟩).len M.files.length = (b.length : Int) := by
        unfold RDisk.len
        rw [show (M.acted.add ⟨b, 0⟩).file M.files.length = ⟨b, 0⟩ from RDisk.add_new (M := M.acted)]
      rw [e1, rd.sum_ins, e2, e3]
      omega
    have hnd : ((rd.apply (M.acted.add ⟨b, 0⟩).now ⟨1, s, dk.no, M.files.length⟩).map Prod.snd).Nodup := by
      rw [happ]
      refine ((rd.ins_perm M.now s M.files.length).map Prod.snd).symm.nodup ?_
      rw [List.map_cons, List.nodup_cons]
      refine ⟨fun hm => ?_, hw.nodup⟩
      obtain ⟨x, hx, e⟩ := List.mem_map.1 hm
      have := (hw.good x hx).1
      omega
    refine ⟨⟨fun i => if i = M.files.length then f else ι i, ?_, fun i hi => ?_⟩, RDisk.lead_wf hwadd hok hnd⟩
    · have := hadd.lead hok
      rw [hu] at this
      have hwith : D.come.with s f = (dk.setFile D.come f ⟨[], 0⟩).lead ⟨dk.no, s, some f⟩ := Dsk.with_none hnow
      rw [hwith, h.used]
      have e1 : ((dk.setFile D.come f ⟨[], 0⟩).lead ⟨dk.no, s, some f⟩).file f = ⟨[], 0⟩ := by
        show (if f = f then (⟨[], 0⟩ : FileV) else D.come.file f) = _
        rw [if_pos rfl]
      rw [e1]
      have e2 : rd.toD (fun i => if i = M.acted.files.length then f else ι i) ⟨1, s, dk.no, M.files.length⟩ = ⟨dk.no, s, some f⟩ := by
        unfold rd.toD
        rw [if_pos rfl]
        dsimp only
        rw [if_pos (show M.files.length = M.acted.files.length from rfl)]
      rw [e2] at this
      have e3 : dk.use (dk.setFile ((dk.setFile D.come f ⟨[], 0⟩).lead ⟨dk.no, s, some f⟩) f ⟨[] ++ b, 0⟩) (M.used + (b.length : Int)) = dk.use ((dk.setFile D.come f ⟨b, 0⟩).lead ⟨dk.no, s, some f⟩) (M.used + (b.length : Int)) := by
        unfold dk.use Dsk.lead dk.setFile
        dsimp only
        congr 1
        funext g
        by_cases e : g = f
        · rw [if_pos e, if_pos e]; rfl
        · rw [if_neg e, if_neg e, if_neg e]
      rw [e3]
      exact this
    · dsimp only
      by_cases e : i = M.files.length
      · rw [if_pos e]
        have hwith : D.come.with s f = (dk.setFile D.come f ⟨[], 0⟩).lead ⟨dk.no, s, some f⟩ := Dsk.with_none hnow
        rw [hwith]
        exact .inr (.inl ⟨s, by
          show (⟨dk.no, s, some f⟩ : DAct).on D.now s = some f
          unfold DAct.on
          dsimp only
          rw [if_pos rfl, if_neg (dk.ok_no hs)]
          show (if s = s then some f else D.now s) = some f
          rw [if_pos rfl]⟩)
      · rw [if_neg e]
        have : i < M.files.length + 1 := by rw [← hl]; exact hi
        exact .inl (hn i (by omega))
end Go.Proofs.Ythffkbcjidbdaaa

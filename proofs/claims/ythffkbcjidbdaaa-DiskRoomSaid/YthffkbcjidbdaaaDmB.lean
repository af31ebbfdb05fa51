/- The disk in plain words: what each act answers and leaves; it says what the program's disk says. -/
import Derived.Test.YthffkbcjidbdaaaDmA
namespace Go.Proofs.Ythffkbcjidbdaaa
open Go.RowKit Go.Maps
set_option maxRecDepth 100000

structure RDisk where
  room : Int
  files : List FileV
  now : RNames
  safe : RNames
  acts : List RAct
  left : Int
  off : Bool
  ops : Int
def rd.vd : FileV := ⟨[], 0⟩
def RDisk.file (M : RDisk) (i : Nat) : FileV := M.files.getD i rd.vd
def RDisk.len (M : RDisk) (i : Nat) : Int := ((M.file i).data.length : Int)
def RDisk.used (M : RDisk) : Int := rd.sum M.len M.now
def RDisk.dies (M : RDisk) : Bool := M.off || decide (M.left = 0)
def RDisk.acted (M : RDisk) : RDisk := { M with ops := M.ops + 1, off := M.dies, left := if M.dies = true then M.left else if 0 < M.left then M.left - 1 else M.left }
def RDisk.actE (M : RDisk) (L : List ByteArray) : Int := if M.dies = true then 7 else if L.all dk.okName = true then 0 else 1

/-- The program's disk says what this one says; files lie at ι. -/
structure Sim (D : Dsk) (M : RDisk) (ι : Nat → Nat) : Prop where
  room : D.room = M.room
  used : D.used = M.used
  ops : D.ops = M.ops
  off : D.off = M.off
  cut : (D.cut = false ∧ M.left = -1) ∨ (D.cut = true ∧ 0 ≤ D.left ∧ D.left = M.left)
  now : ∀ s, D.now s = (rd.look M.now s).map ι
  safe : ∀ s, D.safe s = (rd.look M.safe s).map ι
  since : D.since = M.acts.map (rd.toD ι)
  file : ∀ i, i < M.files.length → D.file (ι i) = M.file i
  inj : ∀ i j, i < M.files.length → j < M.files.length → ι i = ι j → i = j
structure RDisk.WF (M : RDisk) : Prop where
  rise : rd.Rises M.now
  rises : rd.Rises M.safe
  nodup : (M.now.map Prod.snd).Nodup
  good : rd.Good M.now M.files.length
  goods : rd.Good M.safe M.files.length
  acts : ∀ a ∈ M.acts, a.ok M.files.length
  runs : M.now = rd.applyAll M.safe M.acts
  short : ∀ v ∈ M.files, v.safe ≤ v.data.length ∧ v.data.length ≤ 1099511627776 ∧ ∀ x ∈ v.data, x < 256
  fit : 0 ≤ M.room ∧ M.room ≤ 1099511627776
  left : -1 ≤ M.left ∧ M.left ≤ 9223372036854775807

theorem RDisk.len_pos (M : RDisk) (i : Nat) : 0 ≤ M.len i := Int.natCast_nonneg _
theorem RDisk.used_pos (M : RDisk) : 0 ≤ M.used := rd.sum_pos M.len_pos
theorem RDisk.file_mem {M : RDisk} {i : Nat} (h : i < M.files.length) : M.file i ∈ M.files := by
  unfold RDisk.file
  rw [List.getD_eq_getElem?_getD, List.getElem?_eq_getElem h]
  exact List.getElem_mem h
theorem Sim.dies {D : Dsk} {M : RDisk} {ι : Nat → Nat} (h : Sim D M ι) : D.dies = M.dies := by
  unfold Dsk.dies RDisk.dies
  rw [h.off]
  rcases h.cut with ⟨h1, h2⟩ | ⟨h1, h2, h3⟩
  · rw [h1, h2]
    rfl
  · rw [h1, h3]
    rfl
theorem Sim.actE {D : Dsk} {M : RDisk} {ι : Nat → Nat} (h : Sim D M ι) (L : List ByteArray) : D.comeE L = M.actE L := by
  unfold Dsk.comeE RDisk.actE
  rw [h.dies]
theorem Sim.acted {D : Dsk} {M : RDisk} {ι : Nat → Nat} (h : Sim D M ι) : Sim D.come M.acted ι := by
  have hd := h.dies
  refine ⟨h.room, h.used, by show D.ops + 1 = M.ops + 1; rw [h.ops], by show D.dies = M.dies; exact hd, ?_, h.now, h.safe, h.since, h.file, h.inj⟩
  show (D.cut = false ∧ (if M.dies = true then M.left else if 0 < M.left then M.left - 1 else M.left) = -1) ∨ (D.cut = true ∧ 0 ≤ (if D.dies = true then D.left else if D.cut = true then D.left - 1 else D.left) ∧ (if D.dies = true then D.left else if D.cut = true then D.left - 1 else D.left) = (if M.dies = true then M.left else if 0 < M.left then M.left - 1 else M.left))
  rw [hd]
  have hdl : M.dies = false → ¬ M.left = 0 := fun e => by
    unfold RDisk.dies at e
    rw [Bool.or_eq_false_iff] at e
    exact of_decide_eq_false e.2
  rcases h.cut with ⟨h1, h2⟩ | ⟨h1, h2, h3⟩
  · refine .inl ⟨h1, ?_⟩
    rw [h2]
    split <;> rfl
  · refine .inr ⟨h1, ?_⟩
    rw [h1, h3]
    cases e : M.dies with
    | true => rw [if_pos rfl, if_pos rfl]; exact ⟨by omega, rfl⟩
    | false =>
      have := hdl e
      show 0 ≤ M.left - 1 ∧ M.left - 1 = if 0 < M.left then M.left - 1 else M.left
      rw [if_pos (by omega)]
      exact ⟨by omega, rfl⟩
theorem RDisk.WF.acted {M : RDisk} (h : M.WF) : M.acted.WF := by
  refine ⟨h.rise, h.rises, h.nodup, h.good, h.goods, h.acts, h.runs, h.short, h.fit, ?_⟩
  have := h.left
  show -1 ≤ (if M.dies = true then M.left else if 0 < M.left then M.left - 1 else M.left) ∧ (if M.dies = true then M.left else if 0 < M.left then M.left - 1 else M.left) ≤ 9223372036854775807
  split
  · exact this
  · split <;> omega
theorem Sim.near {D : Dsk} {M : RDisk} {ι : Nat → Nat} (h : Sim D M ι) (hw : M.WF) (ho : -1000000 ≤ M.ops ∧ M.ops ≤ 1000000) : D.near := by
  refine ⟨by rw [h.ops]; omega, fun hc => ?_⟩
  rcases h.cut with ⟨h1, -⟩ | ⟨-, h2, h3⟩
  · rw [h1] at hc; cases hc
  · have := hw.left
    omega
theorem Sim.now_some {D : Dsk} {M : RDisk} {ι : Nat → Nat} (h : Sim D M ι) {s : ByteArray} {i : Nat} (hi : rd.look M.now s = some i) : D.now s = some (ι i) := by rw [h.now, hi]; rfl
theorem Sim.now_none {D : Dsk} {M : RDisk} {ι : Nat → Nat} (h : Sim D M ι) {s : ByteArray} (hi : rd.look M.now s = none) : D.now s = Option.none := by rw [h.now, hi]; rfl
theorem RDisk.WF.lt {M : RDisk} (h : M.WF) {s : ByteArray} {i : Nat} (hi : rd.look M.now s = some i) : i < M.files.length := (h.good _ (rd.look_mem hi)).1
/-- A file's bytes under a name, and how many. -/
def RDisk.bytes (M : RDisk) (s : ByteArray) : List Nat := match rd.look M.now s with | Option.none => [] | some i => (M.file i).data
def RDisk.readE (M : RDisk) (s : ByteArray) : Int := match rd.look M.now s with | Option.none => 5 | some _ => 0
def RDisk.size (M : RDisk) (s : ByteArray) : Int := match rd.look M.now s with | Option.none => -1 | some i => M.len i
theorem Sim.bytes {D : Dsk} {M : RDisk} {ι : Nat → Nat} (h : Sim D M ι) (hw : M.WF) (s : ByteArray) : D.bytes s = M.bytes s ∧ D.readE s = M.readE s ∧ D.size s = M.size s := by
  unfold Dsk.bytes RDisk.bytes Dsk.readE RDisk.readE Dsk.size RDisk.size
  cases hi : rd.look M.now s with
  | none => rw [h.now_none hi]; exact ⟨rfl, rfl, rfl⟩
  | some i =>
    rw [h.now_some hi]
    dsimp only
    rw [h.file i (hw.lt hi)]
    exact ⟨rfl, rfl, rfl⟩
theorem RDisk.WF.bytes_le {M : RDisk} (h : M.WF) (s : ByteArray) : (M.bytes s).length ≤ 1099511627776 ∧ ∀ x ∈ M.bytes s, x < 256 := by
  unfold RDisk.bytes
  cases hi : rd.look M.now s with
  | none => exact ⟨Nat.zero_le _, fun x hx => by cases hx⟩
  | some i => exact (h.short _ (RDisk.file_mem (h.lt hi))).2

/-- A file is set. -/
def RDisk.set (M : RDisk) (i : Nat) (v : FileV) : RDisk := { M with files := M.files.set i v }
theorem RDisk.set_file {M : RDisk} {i j : Nat} {v : FileV} (hi : i < M.files.length) : (M.set i v).file j = if j = i then v else M.file j := by
  unfold RDisk.set RDisk.file
  dsimp only
  rw [List.getD_eq_getElem?_getD, List.getD_eq_getElem?_getD, List.getElem?_set]
  by_cases e : j = i
  · subst e; rw [if_pos rfl, if_pos rfl, if_pos hi]; rfl
  · rw [if_neg (fun q => e q.symm), if_neg e]
theorem RDisk.set_used {M : RDisk} (hw : M.WF) {s : ByteArray} {i : Nat} (hi : rd.look M.now s = some i) (v : FileV) : (M.set i v).used = M.used - M.len i + (v.data.length : Int) := by
  have hl := hw.lt hi
  have h1 : (M.set i v).used = rd.sum (M.set i v).len M.now := rfl
  have h2 : (M.set i v).len i = (v.data.length : Int) := by unfold RDisk.len; rw [RDisk.set_file hl, if_pos rfl]
  rw [h1, rd.sum_one (g := M.len) (f := i) hw.nodup (List.mem_map.2 ⟨_, rd.look_mem hi, rfl⟩) (fun j hj => by unfold RDisk.len; rw [RDisk.set_file hl, if_neg hj]), h2]
  rfl
theorem RDisk.set_wf {M : RDisk} (hw : M.WF) {i : Nat} {v : FileV} (hv : v.safe ≤ v.data.length ∧ v.data.length ≤ 1099511627776 ∧ ∀ x ∈ v.data, x < 256) : (M.set i v).WF := by
  have hl : (M.set i v).files.length = M.files.length := List.length_set
  refine ⟨hw.rise, hw.rises, hw.nodup, by rw [hl]; exact hw.good, by rw [hl]; exact hw.goods, fun a ha => by rw [hl]; exact hw.acts a ha, hw.runs, fun u hu => ?_, hw.fit, hw.left⟩
  have hu : u ∈ M.files.set i v := hu
  rcases List.mem_or_eq_of_mem_set hu with h | rfl
  · exact hw.short u h
  · exact hv
theorem Sim.set {D : Dsk} {M : RDisk} {ι : Nat → Nat} (h : Sim D M ι) {i : Nat} (hi : i < M.files.length) (v : FileV) : Sim (dk.use (dk.setFile D (ι i) v) (M.set i v).used) (M.set i v) ι := by
  have hl : (M.set i v).files.length = M.files.length := List.length_set
  refine ⟨h.room, rfl, h.ops, h.off, h.cut, h.now, h.safe, h.since, fun j hj => ?_, fun j k hj hk => ?_⟩
  · rw [hl] at hj
    rw [RDisk.set_file hi]
    show (if ι j = ι i then v else D.file (ι j)) = if j = i then v else M.file j
    by_cases e : j = i
    · rw [if_pos e, if_pos (by rw [e])]
    · rw [if_neg e, if_neg (fun q => e (h.inj j i hj hi q))]
      exact h.file j hj
  · rw [hl] at hj hk
    exact h.inj j k hj hk
/-- A names' act is done. -/
def RDisk.lead (M : RDisk) (a : RAct) : RDisk := { M with acts := M.acts ++ [a], now := rd.apply M.now a }
theorem Sim.lead {D : Dsk} {M : RDisk} {ι : Nat → Nat} (h : Sim D M ι) {a : RAct} (ha : a.ok M.files.length) : Sim (dk.use (D.lead (rd.toD ι a)) (M.lead a).used) (M.lead a) ι :=
  ⟨h.room, rfl, h.ops, h.off, h.cut, fun s => rd.on ha M.now h.now s, h.safe, by show D.since ++ [rd.toD ι a] = (M.acts ++ [a]).map (rd.toD ι); rw [h.since, List.map_append]; rfl, h.file, h.inj⟩
theorem RDisk.lead_wf {M : RDisk} (hw : M.WF) {a : RAct} (ha : a.ok M.files.length) (hn : ((rd.apply M.now a).map Prod.snd).Nodup) : (M.lead a).WF := by
  refine ⟨rd.rises_apply hw.rise a, hw.rises, hn, rd.good_apply hw.good ha, hw.goods, fun b hb => ?_, ?_, hw.short, hw.fit, hw.left⟩
  · have hb : b ∈ M.acts ++ [a] := hb
    rcases List.mem_append.1 hb with hb | hb
    · exact hw.acts b hb
    · rw [List.mem_singleton.1 hb]
      exact ha
  · show rd.apply M.now a = rd.applyAll M.safe (M.acts ++ [a])
    unfold rd.applyAll
    rw [List.foldl_append, hw.runs]
    rfl
end Go.Proofs.Ythffkbcjidbdaaa

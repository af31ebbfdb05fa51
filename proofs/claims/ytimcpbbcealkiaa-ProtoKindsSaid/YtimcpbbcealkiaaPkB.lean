/- proto: the law ProtoKinds (chapter 20). -/
import Derived.BigQuiet
import Derived.Deep.CutRange
import Derived.Test.YtimcpbbcealkiaaPkA
namespace Go.Proofs.Ytimcpbbcealkiaa
open Go.RowKit
set_option maxRecDepth 20000
theorem pk.blk_new {w : World} {p : Nat} (T : TypeId) (cs : Array Value) (h : p = w.heap.size) : Blk (w.alloc (.cells cs T)) p T cs := by subst h; exact Blk.new _ _ _
theorem pk.blk_old {w : World} {p : Nat} {T : TypeId} {cs : Array Value} (o : Obj) (h : Blk w p T cs) : Blk (w.alloc o) p T cs := (Chg.alloc w o (fun _ => False)).blk h id
theorem pk.blk_dr {w : World} {p : Nat} {T : TypeId} {cs : Array Value} (h : Blk w p T cs) : Blk w.drew p T cs := h
theorem pk.int0 : pq.int 0 := by unfold pq.int; omega
theorem pk.sz0 : (ByteArray.mk #[]).size ≤ maxLen := by decide
theorem pk.bytes_byte (r : PReq) (hf : r.fit) (hd : ∀ x ∈ r.data, x < 256) (hs : r.client.size ≤ 100000000000 ∧ r.topic.size ≤ 100000000000 ∧ r.group.size ≤ 100000000000 ∧ r.member.size ≤ 100000000000 ∧ r.names.length ≤ 100000000000 ∧ (∀ s ∈ r.names, s.size ≤ 100000000000) ∧ r.data.length ≤ 100000000000) : ∀ x ∈ pq.bytes r, x < 256 := by
  obtain ⟨⟨h1, h2, h3, h4, h5, h6, h7⟩, -⟩ := hf
  have ht : ∀ (s : ByteArray), s.size ≤ 100000000000 → ∀ x ∈ pq.text s, x < 256 := fun s hs x hx => by
    unfold pq.text at hx
    rcases List.mem_append.1 hx with h | h
    · exact num.put_byte _ (by omega) (by omega) x h
    · exact strNats_lt s x h
  have hn : ∀ n : Nat, n ≤ 100000000000 → ∀ x ∈ num.put (n : Int), x < 256 := fun n hn x hx => num.put_byte _ (by omega) (by omega) x hx
  have hts : ∀ (l : List ByteArray), (∀ s ∈ l, s.size ≤ 100000000000) → ∀ x ∈ pq.texts l, x < 256 := fun l hl x hx => by
    unfold pq.texts at hx
    obtain ⟨s, hs, hx2⟩ := List.mem_flatMap.1 hx
    exact ht s (hl s hs) x hx2
  obtain ⟨q1, q2, q3, q4, q5⟩ := hs
  intro x hx
  rw [pq.bytes_eq] at hx
  unfold pq.tail at hx
  simp only [List.mem_append] at hx
  rcases hx with h | h | h | h | h | h | h | h | h | h | h | h | h | h | h
  · exact wire.be_byte _ _ x h
  · exact wire.be_byte _ _ x h
  · exact ht _ q1 x h
  · exact ht _ q2 x h
  · exact num.put_byte _ h3.1 h3.2 x h
  · exact num.put_byte _ h4.1 h4.2 x h
  · exact num.put_byte _ h5.1 h5.2 x h
  · exact num.put_byte _ h6.1 h6.2 x h
  · exact ht _ q3 x h
  · exact ht _ q4 x h
  · exact num.put_byte _ h7.1 h7.2 x h
  · exact hn _ q5.1 x h
  · exact hts _ q5.2.1 x h
  · exact hn _ q5.2.2 x h
  · exact hd x h
set_option maxHeartbeats 4000000 in
theorem pk.law (kind nameS datA texT : Int) (w : World) (hki : pq.int kind) :
    Calls Try.prog 7 #[.int .i64 kind, .int .i64 nameS, .int .i64 datA, .int .i64 texT] w fun e w' => e = .returned (.bool true) ∧ Below w.heap.size w w' := by
  have hgo : ∀ wx, Calls Try.prog 9 #[] wx fun e w' => e = .returned (.bool true) ∧ Below wx.heap.size wx w' := law20.awake
  have HGO := Lib.hid hgo; clear hgo
  by_cases hr : nameS < 0 ∨ 40 < nameS ∨ datA < 0 ∨ 70000 < datA ∨ texT < 0 ∨ 110 < texT
  · have hr2 : nameS < 0 ∨ (¬ nameS < 0 ∧ 40 < nameS) ∨ (¬ nameS < 0 ∧ ¬ 40 < nameS ∧ datA < 0) ∨ (¬ nameS < 0 ∧ ¬ 40 < nameS ∧ ¬ datA < 0 ∧ 70000 < datA) ∨ (¬ nameS < 0 ∧ ¬ 40 < nameS ∧ ¬ datA < 0 ∧ ¬ 70000 < datA ∧ texT < 0) ∨ (¬ nameS < 0 ∧ ¬ 40 < nameS ∧ ¬ datA < 0 ∧ ¬ 70000 < datA ∧ ¬ texT < 0 ∧ 110 < texT) := by omega
    clear hr
    rcases hr2 with h1 | ⟨h1, h2⟩ | ⟨h1, h2, h3⟩ | ⟨h1, h2, h3, h4⟩ | ⟨h1, h2, h3, h4, h5⟩ | ⟨h1, h2, h3, h4, h5, h6⟩
    all_goals
      go_enter Try.func7, Try.ntmps7
      go_wp2_with fail
      refine (HGO.out w).mono ?_
      rintro e wd ⟨rfl, hbd⟩
      have HBD := Lib.hid hbd; clear hbd
      go_wp2
      go_ret
      exact ⟨rfl, HBD.out⟩
  have hs : ∃ n m t : Nat, nameS = (n : Int) ∧ datA = (m : Int) ∧ texT = (t : Int) := ⟨nameS.toNat, datA.toNat, texT.toNat, by omega, by omega, by omega⟩
  obtain ⟨names, data, text, rfl, rfl, rfl⟩ := hs
  have c1 : ((names : Int) < 0) = False := by simp
  have c2 : ((40 : Int) < (names : Int)) = False := by simp; omega
  have c3 : ((data : Int) < 0) = False := by simp
  have c4 : ((70000 : Int) < (data : Int)) = False := by simp; omega
  have c5 : ((text : Int) < 0) = False := by simp
  have c6 : ((110 : Int) < (text : Int)) = False := by simp; omega
  obtain ⟨ZT, hmt, hat⟩ := pk.makeB text (by omega)
  obtain ⟨ZD, hmd, had⟩ := pk.makeB data (by omega)
  obtain ⟨ZN, hmn, han⟩ := pk.makeS names (by omega)
  obtain ⟨ZB, hmb, hab⟩ := pk.makeB 131073 (by omega)
  obtain ⟨ZI, hmi⟩ := pk.makeI
  have hab2 : ∀ (wx : World) (b : Nat), Blk wx b 5 ZB → At wx (some ⟨b, 0, none⟩) 131073 (byteAt (List.replicate 131073 0)) := fun wx b h => by
    obtain ⟨A1, c1, e1, h1, -⟩ := hab wx b h
    rw [List.length_replicate] at h1 e1
    injection e1 with e2
    rw [← e2] at h1
    exact h1
  have hcv : ∀ (wx : World) (b : Nat), Blk wx b 5 ZT → (convert 23 9 (.slice (some ⟨b, 0, none⟩) text text)).run Try.prog wx = .ok (.string (strOf (List.replicate text 0))) wx := fun wx b h => by
    obtain ⟨A1, c1, e1, h1, -⟩ := hat wx b h
    rw [List.length_replicate] at h1 e1
    injection e1 with e2
    rw [← e2] at h1
    exact conv_any (P := Try.prog) (c := text) Try.underlying23 Try.underlying5 Try.underlying9 (List.replicate text 0) (List.length_replicate) h1
  have HK := Lib.hid (And.intro han (And.intro had (And.intro hab2 (And.intro hki hr)))); clear han had hab hab2 hki hat hr

  have hcv10 : (convert 23 9 (.slice (some ⟨w.heap.size, 0, none⟩) text text)).run Try.prog (w.alloc (.cells ZT 5)).drew = .ok (.string (strOf (List.replicate text 0))) (w.alloc (.cells ZT 5)).drew := hcv _ _ (pk.blk_dr (pk.blk_new _ _ rfl))
  have hcv20 : ∀ o1 : Obj, (convert 23 9 (.slice (some ⟨w.heap.size, 0, none⟩) text text)).run Try.prog ((w.alloc (.cells ZT 5)).alloc o1).drew = .ok (.string (strOf (List.replicate text 0))) ((w.alloc (.cells ZT 5)).alloc o1).drew := fun o1 => hcv _ _ (pk.blk_dr (pk.blk_old _ (pk.blk_new _ _ rfl)))
  have hcv21 : ∀ o0 : Obj, (convert 23 9 (.slice (some ⟨w.heap.size + 1, 0, none⟩) text text)).run Try.prog ((w.alloc o0).alloc (.cells ZT 5)).drew = .ok (.string (strOf (List.replicate text 0))) ((w.alloc o0).alloc (.cells ZT 5)).drew := fun o0 => hcv _ _ (pk.blk_dr (pk.blk_new _ _ (by simp [World.size_alloc])))
  have hcv30 : ∀ o1 o2 : Obj, (convert 23 9 (.slice (some ⟨w.heap.size, 0, none⟩) text text)).run Try.prog (((w.alloc (.cells ZT 5)).alloc o1).alloc o2).drew = .ok (.string (strOf (List.replicate text 0))) (((w.alloc (.cells ZT 5)).alloc o1).alloc o2).drew := fun o1 o2 => hcv _ _ (pk.blk_dr (pk.blk_old _ (pk.blk_old _ (pk.blk_new _ _ rfl))))
  have hcv31 : ∀ o0 o2 : Obj, (convert 23 9 (.slice (some ⟨w.heap.size + 1, 0, none⟩) text text)).run Try.prog (((w.alloc o0).alloc (.cells ZT 5)).alloc o2).drew = .ok (.string (strOf (List.replicate text 0))) (((w.alloc o0).alloc (.cells ZT 5)).alloc o2).drew := fun o0 o2 => hcv _ _ (pk.blk_dr (pk.blk_old _ (pk.blk_new _ _ (by simp [World.size_alloc]))))
  have hcv32 : ∀ o0 o1 : Obj, (convert 23 9 (.slice (some ⟨w.heap.size + 1 + 1, 0, none⟩) text text)).run Try.prog (((w.alloc o0).alloc o1).alloc (.cells ZT 5)).drew = .ok (.string (strOf (List.replicate text 0))) (((w.alloc o0).alloc o1).alloc (.cells ZT 5)).drew := fun o0 o1 => hcv _ _ (pk.blk_dr (pk.blk_new _ _ (by simp [World.size_alloc])))
  have hcv40 : ∀ o1 o2 o3 : Obj, (convert 23 9 (.slice (some ⟨w.heap.size, 0, none⟩) text text)).run Try.prog ((((w.alloc (.cells ZT 5)).alloc o1).alloc o2).alloc o3).drew = .ok (.string (strOf (List.replicate text 0))) ((((w.alloc (.cells ZT 5)).alloc o1).alloc o2).alloc o3).drew := fun o1 o2 o3 => hcv _ _ (pk.blk_dr (pk.blk_old _ (pk.blk_old _ (pk.blk_old _ (pk.blk_new _ _ rfl)))))
  have hcv41 : ∀ o0 o2 o3 : Obj, (convert 23 9 (.slice (some ⟨w.heap.size + 1, 0, none⟩) text text)).run Try.prog ((((w.alloc o0).alloc (.cells ZT 5)).alloc o2).alloc o3).drew = .ok (.string (strOf (List.replicate text 0))) ((((w.alloc o0).alloc (.cells ZT 5)).alloc o2).alloc o3).drew := fun o0 o2 o3 => hcv _ _ (pk.blk_dr (pk.blk_old _ (pk.blk_old _ (pk.blk_new _ _ (by simp [World.size_alloc])))))
  have hcv42 : ∀ o0 o1 o3 : Obj, (convert 23 9 (.slice (some ⟨w.heap.size + 1 + 1, 0, none⟩) text text)).run Try.prog ((((w.alloc o0).alloc o1).alloc (.cells ZT 5)).alloc o3).drew = .ok (.string (strOf (List.replicate text 0))) ((((w.alloc o0).alloc o1).alloc (.cells ZT 5)).alloc o3).drew := fun o0 o1 o3 => hcv _ _ (pk.blk_dr (pk.blk_old _ (pk.blk_new _ _ (by simp [World.size_alloc]))))
  have hcv43 : ∀ o0 o1 o2 : Obj, (convert 23 9 (.slice (some ⟨w.heap.size + 1 + 1 + 1, 0, none⟩) text text)).run Try.prog ((((w.alloc o0).alloc o1).alloc o2).alloc (.cells ZT 5)).drew = .ok (.string (strOf (List.replicate text 0))) ((((w.alloc o0).alloc o1).alloc o2).alloc (.cells ZT 5)).drew := fun o0 o1 o2 => hcv _ _ (pk.blk_dr (pk.blk_new _ _ (by simp [World.size_alloc])))
  have HCV := Lib.hid hcv; clear hcv
  go_enter Try.func7, Try.ntmps7
  go_upto_region 3 with fail

  go_cut [9] from 46 to 54 (fun s9 wx => (∃ b9 bn bd, s9 = .pointer (some ⟨b9, 0, none⟩) ∧ w.heap.size ≤ b9 ∧ w.heap.size ≤ bn ∧ w.heap.size ≤ bd ∧ Blk wx b9 25 #[.int .i64 kind, .int .i64 0, .string (ByteArray.mk #[]), .string (strOf (List.replicate text 0)), .int .i64 0, .int .i64 0, .int .i64 0, .int .i64 0, .string (ByteArray.mk #[]), .string (ByteArray.mk #[]), .int .i64 0, .slice (some ⟨bn, 0, none⟩) names names, .slice (some ⟨bd, 0, none⟩) data data] ∧ Blk wx bn 9 ZN ∧ Blk wx bd 5 ZD) ∧ Below w.heap.size w wx)
  case first =>
    go_wp2_with fail
    go_region
    all_goals
      go_wp2_with fail
      go_meet
      case rel =>
        refine ⟨?qh, ?qg⟩
        case qh =>
         apply Exists.intro
         apply Exists.intro
         apply Exists.intro
         refine ⟨rfl, ?qa, ?qb, ?qc, ?qd, ?qe, ?qf⟩
         case qd => refine pk.blk_dr ?_; repeat (first | exact pk.blk_new _ _ (by simp [World.size_alloc]) | refine pk.blk_old _ ?_)
         case qe => refine pk.blk_dr ?_; repeat (first | exact pk.blk_new _ _ (by simp [World.size_alloc]) | refine pk.blk_old _ ?_)
         case qf => refine pk.blk_dr ?_; repeat (first | exact pk.blk_new _ _ (by simp [World.size_alloc]) | refine pk.blk_old _ ?_)
         case qa => omega
         case qb => omega
         case qc => omega
        case qg =>
          refine bdrew ?_ 1
          exact Below.alloc (Below.alloc (Below.alloc (Below.alloc (Below.refl _ _) (Nat.le_refl _) _) (by simp only [World.size_alloc]; omega) _) (by simp only [World.size_alloc]; omega) _) (by simp only [World.size_alloc]; omega) _
  case rest =>
    obtain ⟨⟨b9, bn, bd, rfl, l9, ln, ld, hb9, hbn, hbd⟩, hbw⟩ := hcut
    have hrv : ReqV wc (some ⟨bn, 0, none⟩) names (some ⟨bd, 0, none⟩) data (pk.req kind text names data) := by
      refine ⟨⟨⟨HK.out.2.2.2.1, pk.int0, pk.int0, pk.int0, pk.int0, pk.int0, pk.int0⟩, pk.sz0, ?_, pk.sz0, pk.sz0⟩, ?_, ?_⟩
      · show (strOf (List.replicate text 0)).size ≤ maxLen
        rw [pk.size]
        have := HK.out.2.2.2.2
        unfold maxLen
        omega
      · have := HK.out.1 wc bn hbn
        unfold pk.req
        simpa using this
      · have := HK.out.2.1 wc bd hbd
        unfold pk.req
        simpa using this
    have hce : (pk.req kind text names data).cells (some ⟨bn, 0, none⟩) names (some ⟨bd, 0, none⟩) data = #[.int .i64 kind, .int .i64 0, .string (ByteArray.mk #[]), .string (strOf (List.replicate text 0)), .int .i64 0, .int .i64 0, .int .i64 0, .int .i64 0, .string (ByteArray.mk #[]), .string (ByteArray.mk #[]), .int .i64 0, .slice (some ⟨bn, 0, none⟩) names names, .slice (some ⟨bd, 0, none⟩) data data] := by
      unfold PReq.cells pk.req
      simp
    obtain ⟨r, hr⟩ : ∃ r, r = pk.req kind text names data := ⟨_, rfl⟩
    obtain ⟨K, hK⟩ : ∃ K, K = pq.check r := ⟨_, rfl⟩
    have hK2 := hK
    rw [hr, pk.check] at hK2
    rw [← hr] at hrv hce
    have hbig : ∀ wx, Calls Try.prog 12 #[.slice (some ⟨wx.heap.size, 0, none⟩) 131073 131073] (wx.alloc (.cells ZB 5)) fun e w' => e = .returned (.tuple #[.agg #[.int .i64 0, .int .i64 0, .string (ByteArray.mk #[]), .string (ByteArray.mk #[]), .int .i64 0, .int .i64 0, .int .i64 0, .int .i64 0, .string (ByteArray.mk #[]), .string (ByteArray.mk #[]), .int .i64 0, .slice none 0 0, .slice none 0 0], .int .i64 0, .int .i64 3]) ∧ Below wx.heap.size wx w' := fun wx => by
      have h := pq.decode_any (some ⟨wx.heap.size, 0, none⟩) 131073 (List.replicate 131073 0) (wx.alloc (.cells ZB 5)) (by rw [List.length_replicate]; exact HK.out.2.2.1 _ _ (pk.blk_new _ _ rfl)) (by rw [List.length_replicate]; exact Nat.le_refl _) (by unfold maxLen; omega) (fun x hx => by rw [List.eq_of_mem_replicate hx]; omega) (by rw [List.length_replicate]; omega)
      rw [List.length_replicate] at h
      refine h.mono ?_
      unfold pq.DecPost
      rw [pk.dec_big]
      rintro e w' ⟨⟨cs, rfl, -, h1, -⟩, hb⟩
      rw [h1 (by decide)]
      exact ⟨rfl, ((Below.refl _ _).alloc (Nat.le_refl _) _).trans (hb.mono (by rw [World.size_alloc]; omega))⟩
    have hmb2 : ∀ wx : World, (Instr.makeSlice 23 (.int .i64 131073) (.int .i64 131073)).run Try.prog wx = .ok (.slice (some ⟨wx.heap.size, 0, none⟩) 131073 131073) (wx.alloc (.cells ZB 5)) := fun wx => hmb wx
    have HMB := Lib.hid hmb; clear hmb
    have HBIG := Lib.hid hbig; clear hbig
    have hup : ∀ wx, Below w.heap.size w wx → ∀ wy, Below wx.heap.size wx wy → Below w.heap.size w wy := fun wx h wy h2 => h.trans (h2.mono h.size)
    have HUP := Lib.hid hup; clear hup
    clear hcv10 hcv20 hcv21 hcv30 hcv31 hcv32 hcv40 hcv41 hcv42 hcv43
    have y0 := hb9.cell 0 (v := .int .i64 kind) rfl
    have y1 := hb9.cell 1 (v := .int .i64 0) rfl
    have y2 := hb9.cell 2 (v := .string (ByteArray.mk #[])) rfl
    have y3 := hb9.cell 3 (v := .string (strOf (List.replicate text 0))) rfl
    have y4 := hb9.cell 4 (v := .int .i64 0) rfl
    have y5 := hb9.cell 5 (v := .int .i64 0) rfl
    have y6 := hb9.cell 6 (v := .int .i64 0) rfl
    have y7 := hb9.cell 7 (v := .int .i64 0) rfl
    have y8 := hb9.cell 8 (v := .string (ByteArray.mk #[])) rfl
    have y9 := hb9.cell 9 (v := .string (ByteArray.mk #[])) rfl
    have y10 := hb9.cell 10 (v := .int .i64 0) rfl
    have y11 := hb9.cell 11 (v := .slice (some ⟨bn, 0, none⟩) names names) rfl
    have y12 := hb9.cell 12 (v := .slice (some ⟨bd, 0, none⟩) data data) rfl
    have yl := hb9.lt
    have HB := Lib.hid (And.intro hb9 (And.intro hrv (And.intro hce (And.intro hbw (And.intro hK hr))))); clear hb9 hrv hce hbw hbn hbd hr hK
    have hcs : (kind < 1 ∧ K = 16) ∨ (¬ kind < 1 ∧ 14 < kind ∧ K = 16) ∨ (¬ kind < 1 ∧ ¬ 14 < kind ∧ 100 < text ∧ K = 3) ∨ (¬ kind < 1 ∧ ¬ 14 < kind ∧ ¬ 100 < text ∧ 30 < names ∧ K = 3) ∨ (¬ kind < 1 ∧ ¬ 14 < kind ∧ ¬ 100 < text ∧ ¬ 30 < names ∧ 65536 < data ∧ K = 3) ∨ (¬ kind < 1 ∧ ¬ 14 < kind ∧ ¬ 100 < text ∧ ¬ 30 < names ∧ ¬ 65536 < data ∧ K = 0) := by
      by_cases k0 : kind < 1
      · exact .inl ⟨k0, by rw [hK2, if_pos (.inl k0)]⟩
      by_cases k1 : 14 < kind
      · exact .inr (.inl ⟨k0, k1, by rw [hK2, if_pos (.inr k1)]⟩)
      rw [if_neg (by omega)] at hK2
      by_cases k2 : 100 < text
      · exact .inr (.inr (.inl ⟨k0, k1, k2, by rw [hK2, if_pos (.inl k2)]⟩))
      by_cases k3 : 30 < names
      · exact .inr (.inr (.inr (.inl ⟨k0, k1, k2, k3, by rw [hK2, if_pos (.inr (.inl k3))]⟩)))
      by_cases k4 : 65536 < data
      · exact .inr (.inr (.inr (.inr (.inl ⟨k0, k1, k2, k3, k4, by rw [hK2, if_pos (.inr (.inr k4))]⟩))))
      exact .inr (.inr (.inr (.inr (.inr ⟨k0, k1, k2, k3, k4, by rw [hK2, if_neg (by omega)]⟩))))
    clear hK2
    rcases hcs with ⟨k0, rfl⟩ | ⟨k0, k1, rfl⟩ | ⟨k0, k1, k2, rfl⟩ | ⟨k0, k1, k2, k3, rfl⟩ | ⟨k0, k1, k2, k3, k4, rfl⟩ | ⟨k0, k1, k2, k3, k4, rfl⟩
    rotate_left 5
    · have hz : pq.check r = 0 := HB.out.2.2.2.2.1.symm
      have henc := pq.encode_ok r (some ⟨bn, 0, none⟩) names (some ⟨bd, 0, none⟩) data wc HB.out.2.1 hz
      rw [HB.out.2.2.1] at henc
      have hfit := HB.out.2.1.1
      have hlen := pq.bytes_len hz
      have hby := pk.bytes_byte r hfit (by rw [HB.out.2.2.2.2.2]; intro x hx; have := List.eq_of_mem_replicate (show x ∈ List.replicate data 0 from hx); omega) (by
        rw [HB.out.2.2.2.2.2]
        unfold pk.req
        have z0 : (ByteArray.mk #[]).size = 0 := rfl
        have := HK.out.2.2.2.2
        refine ⟨by rw [z0]; omega, by rw [pk.size]; omega, by rw [z0]; omega, by rw [z0]; omega, by rw [List.length_replicate]; omega, fun s hs => by rw [List.eq_of_mem_replicate hs, z0]; omega, by rw [List.length_replicate]; omega⟩)
      have hdec := pq.dec_put r [] hfit hz (by rw [List.append_nil]; exact hlen.2)
      rw [List.append_nil, if_neg (by simp)] at hdec
      obtain ⟨L, hL⟩ : ∃ L, L = pq.bytes r := ⟨_, rfl⟩
      rw [← hL] at henc hlen hby hdec
      obtain ⟨nL, hnL⟩ : ∃ n, n = L.length := ⟨_, rfl⟩
      rw [← hnL] at henc hlen
      have hd : ∀ wx A c, wx.ownsRow wc.heap.size 5 1 (.slice A nL c) nL (u8s L) → Calls Try.prog 12 #[.slice A nL c] wx fun en w' => (∃ An cn Ad cd, en = .returned (.tuple #[.agg #[.int .i64 r.kind, .int .i64 r.corr, .string r.client, .string r.topic, .int .i64 r.part, .int .i64 r.off, .int .i64 r.time, .int .i64 r.most, .string r.group, .string r.member, .int .i64 r.gen, .slice An r.names.length cn, .slice Ad r.data.length cd], .int .i64 r.corr, .int .i64 0]) ∧ ReqV w' An cn Ad cd r) ∧ Below wx.heap.size wx w' := fun wx A c h => by
        obtain ⟨A9, c9, e9, h1, -, h2⟩ := own_bytes h
        obtain ⟨rfl, rfl⟩ : A = A9 ∧ c = c9 := by injection e9 with e1 e2 e3; exact ⟨e1, e3⟩
        have := pq.decode_any A c L wx (by rw [← hnL]; exact h2) (by rw [← hnL]; exact h1) (own_cap h) hby (by omega)
        rw [← hnL] at this
        refine this.mono ?_
        unfold pq.DecPost
        rw [hdec]
        rintro en w' ⟨⟨cs, rfl, -, -, h3⟩, hb⟩
        obtain ⟨An, cn, Ad, cd, rfl, h4, -⟩ := h3 rfl
        exact ⟨⟨An, cn, Ad, cd, rfl, h4⟩, hb⟩
      have hsm : ∀ wx An cn Ad cd, ReqV wx An cn Ad cd r → Below wc.heap.size wc wx → Calls Try.prog 15 #[.agg #[.int .i64 r.kind, .int .i64 r.corr, .string r.client, .string r.topic, .int .i64 r.part, .int .i64 r.off, .int .i64 r.time, .int .i64 r.most, .string r.group, .string r.member, .int .i64 r.gen, .slice An r.names.length cn, .slice Ad r.data.length cd], .agg #[.int .i64 kind, .int .i64 0, .string (ByteArray.mk #[]), .string (strOf (List.replicate text 0)), .int .i64 0, .int .i64 0, .int .i64 0, .int .i64 0, .string (ByteArray.mk #[]), .string (ByteArray.mk #[]), .int .i64 0, .slice (some ⟨bn, 0, none⟩) names names, .slice (some ⟨bd, 0, none⟩) data data]] wx fun e w' => e = .returned (.bool true) ∧ Below wx.heap.size wx w' := fun wx An cn Ad cd h1 h2 => by
        have h := pq.same_any r r An cn Ad cd (some ⟨bn, 0, none⟩) names (some ⟨bd, 0, none⟩) data wx h1 (HB.out.2.1.below h2 (Nat.le_refl _))
        rw [HB.out.2.2.1, decide_eq_true (show r.Same r from ⟨rfl, rfl, rfl, rfl, rfl, rfl, rfl, rfl, rfl, rfl, rfl, rfl, rfl⟩)] at h
        exact h
      have hpos : 0 < nL := by omega
      have HE := Lib.hid (And.intro henc (And.intro hd hsm)); clear henc hd hsm hby hdec hL hnL hfit hz hlen
      go_upto_region 10 with (go_at_call 10; refine HE.out.1.mono ?_; rintro e w2 ⟨⟨v, rfl, q1⟩, q2⟩; obtain ⟨A1, cc1, rfl, -, -⟩ := own_at q1; have H2 := Lib.hid (And.intro q1 q2); clear q1 q2)
      clear y0 y1 y2 y3 y4 y5 y6 y7 y8 y9 y10 y11 y12 yl
      go_upto_region 14 with (go_at_call 12; refine (HE.out.2.1 w2 A1 cc1 H2.out.1).mono ?_; rintro e w3 ⟨⟨An, cn, Ad, cd, rfl, q1⟩, q2⟩; have H3 := Lib.hid (And.intro q1 q2); clear q1 q2)
      obtain ⟨b4, hb4⟩ : ∃ b, b = w3.heap.size := ⟨_, rfl⟩
      obtain ⟨w4, hw4⟩ : ∃ w4, w4 = w3.alloc (.cells #[.int .i64 r.kind, .int .i64 r.corr, .string r.client, .string r.topic, .int .i64 r.part, .int .i64 r.off, .int .i64 r.time, .int .i64 r.most, .string r.group, .string r.member, .int .i64 r.gen, .slice An r.names.length cn, .slice Ad r.data.length cd] 25) := ⟨_, rfl⟩
      rw [← hw4, ← hb4]
      have hx3 : Below wc.heap.size wc w3 := H2.out.2.trans (H3.out.2.mono H2.out.2.size)
      have hx4 : Below wc.heap.size wc w4 := by rw [hw4]; exact hx3.alloc hx3.size _
      have hk4 : Blk w4 b4 25 #[.int .i64 r.kind, .int .i64 r.corr, .string r.client, .string r.topic, .int .i64 r.part, .int .i64 r.off, .int .i64 r.time, .int .i64 r.most, .string r.group, .string r.member, .int .i64 r.gen, .slice An r.names.length cn, .slice Ad r.data.length cd] := by rw [hw4, hb4]; exact Blk.new _ _ _
      have hk9 : Blk w4 b9 25 #[.int .i64 kind, .int .i64 0, .string (ByteArray.mk #[]), .string (strOf (List.replicate text 0)), .int .i64 0, .int .i64 0, .int .i64 0, .int .i64 0, .string (ByteArray.mk #[]), .string (ByteArray.mk #[]), .int .i64 0, .slice (some ⟨bn, 0, none⟩) names names, .slice (some ⟨bd, 0, none⟩) data data] := (chg_of (P := fun _ => False) hx4).blk HB.out.1 fun q => q
      have hv4 : ReqV w4 An cn Ad cd r := by rw [hw4]; exact H3.out.1.below ((Below.refl w3.heap.size w3).alloc (Nat.le_refl _) _) (Nat.le_refl _)
      have H4 := Lib.hid (And.intro hv4 (And.intro hx4 (HUP.out wc HB.out.2.2.2.1 w4 hx4))); clear hv4 hx4 hx3 hw4 hb4
      have y0 := hk9.cell 0 (v := .int .i64 kind) rfl
      have y1 := hk9.cell 1 (v := .int .i64 0) rfl
      have y2 := hk9.cell 2 (v := .string (ByteArray.mk #[])) rfl
      have y3 := hk9.cell 3 (v := .string (strOf (List.replicate text 0))) rfl
      have y4 := hk9.cell 4 (v := .int .i64 0) rfl
      have y5 := hk9.cell 5 (v := .int .i64 0) rfl
      have y6 := hk9.cell 6 (v := .int .i64 0) rfl
      have y7 := hk9.cell 7 (v := .int .i64 0) rfl
      have y8 := hk9.cell 8 (v := .string (ByteArray.mk #[])) rfl
      have y9 := hk9.cell 9 (v := .string (ByteArray.mk #[])) rfl
      have y10 := hk9.cell 10 (v := .int .i64 0) rfl
      have y11 := hk9.cell 11 (v := .slice (some ⟨bn, 0, none⟩) names names) rfl
      have y12 := hk9.cell 12 (v := .slice (some ⟨bd, 0, none⟩) data data) rfl
      have z0 := hk4.cell 0 (v := .int .i64 r.kind) rfl
      have z1 := hk4.cell 1 (v := .int .i64 r.corr) rfl
      have z2 := hk4.cell 2 (v := .string r.client) rfl
      have z3 := hk4.cell 3 (v := .string r.topic) rfl
      have z4 := hk4.cell 4 (v := .int .i64 r.part) rfl
      have z5 := hk4.cell 5 (v := .int .i64 r.off) rfl
      have z6 := hk4.cell 6 (v := .int .i64 r.time) rfl
      have z7 := hk4.cell 7 (v := .int .i64 r.most) rfl
      have z8 := hk4.cell 8 (v := .string r.group) rfl
      have z9 := hk4.cell 9 (v := .string r.member) rfl
      have z10 := hk4.cell 10 (v := .int .i64 r.gen) rfl
      have z11 := hk4.cell 11 (v := .slice An r.names.length cn) rfl
      have z12 := hk4.cell 12 (v := .slice Ad r.data.length cd) rfl
      have yl := hk9.lt
      have zl := hk4.lt
      clear hk9 hk4
      go_upto_region 16 with (go_at_call 15; refine (HE.out.2.2 w4 An cn Ad cd H4.out.1 H4.out.2.1).mono ?_; rintro e w5 ⟨rfl, h1⟩; have H5 := Lib.hid (HUP.out w4 H4.out.2.2 w5 h1); clear h1)
      clear y0 y1 y2 y3 y4 y5 y6 y7 y8 y9 y10 y11 y12 z0 z1 z2 z3 z4 z5 z6 z7 z8 z9 z10 z11 z12 yl zl
      go_upto_region 17 with (go_at_call 12; refine (HBIG.out w5).mono ?_; rintro e w7 ⟨rfl, h1⟩; have H7 := Lib.hid (HUP.out w5 H5.out w7 h1); clear h1)
      obtain ⟨w8, hw8⟩ : ∃ w8, w8 = w7.alloc (.cells #[.int .i64 0, .int .i64 0, .string (ByteArray.mk #[]), .string (ByteArray.mk #[]), .int .i64 0, .int .i64 0, .int .i64 0, .int .i64 0, .string (ByteArray.mk #[]), .string (ByteArray.mk #[]), .int .i64 0, .slice none 0 0, .slice none 0 0] 25) := ⟨_, rfl⟩
      rw [← hw8]
      have H8 := Lib.hid (show Below w.heap.size w w8 by rw [hw8]; exact H7.out.alloc H7.out.size _)
      clear hw8
      go_upto_region 18 with (go_at_call 18; refine (pq.answer_neg w8).mono ?_; rintro e wa ⟨rfl, h1⟩; have HA := Lib.hid (HUP.out w8 H8.out wa h1); clear h1)
      go_upto_region 19 with (go_at_call 18; refine (pq.answer_many (some ⟨wa.heap.size, 0, none⟩) 1001 (wa.alloc (.cells ZI 3))).mono ?_; rintro e wb ⟨rfl, h1⟩; have HB5 := Lib.hid (HUP.out _ (HA.out.alloc HA.out.size _) wb h1); clear h1)
      go_wp2_with (go_at_call 9; refine (HGO.out wb).mono ?_; rintro e wd ⟨rfl, h1⟩; have HD := Lib.hid (HUP.out wb HB5.out wd h1); clear h1)
      go_ret
      exact ⟨rfl, HD.out⟩
    all_goals
      have hne : pq.check r ≠ 0 := by rw [← HB.out.2.2.2.2.1]; omega
      have henc := pq.encode_bad r (some ⟨bn, 0, none⟩) names (some ⟨bd, 0, none⟩) data wc HB.out.2.1 hne
      rw [HB.out.2.2.1, ← HB.out.2.2.2.2.1] at henc
      have HE := Lib.hid henc; clear henc hne
      go_upto_region 10 with (go_at_call 10; refine HE.out.mono ?_; rintro e w2 ⟨rfl, h1⟩; have H2 := Lib.hid (HUP.out wc HB.out.2.2.2.1 w2 h1); clear h1)
      clear y0 y1 y2 y3 y4 y5 y6 y7 y8 y9 y10 y11 y12 yl
      go_upto_region 17 with (go_at_call 12; refine (HBIG.out w2).mono ?_; rintro e w7 ⟨rfl, h1⟩; have H7 := Lib.hid (HUP.out w2 H2.out w7 h1); clear h1)
      obtain ⟨w8, hw8⟩ : ∃ w8, w8 = w7.alloc (.cells #[.int .i64 0, .int .i64 0, .string (ByteArray.mk #[]), .string (ByteArray.mk #[]), .int .i64 0, .int .i64 0, .int .i64 0, .int .i64 0, .string (ByteArray.mk #[]), .string (ByteArray.mk #[]), .int .i64 0, .slice none 0 0, .slice none 0 0] 25) := ⟨_, rfl⟩
      rw [← hw8]
      have H8 := Lib.hid (show Below w.heap.size w w8 by rw [hw8]; exact H7.out.alloc H7.out.size _)
      clear hw8
      go_upto_region 18 with (go_at_call 18; refine (pq.answer_neg w8).mono ?_; rintro e wa ⟨rfl, h1⟩; have HA := Lib.hid (HUP.out w8 H8.out wa h1); clear h1)
      go_upto_region 19 with (go_at_call 18; refine (pq.answer_many (some ⟨wa.heap.size, 0, none⟩) 1001 (wa.alloc (.cells ZI 3))).mono ?_; rintro e wb ⟨rfl, h1⟩; have HB5 := Lib.hid (HUP.out _ (HA.out.alloc HA.out.size _) wb h1); clear h1)
      go_wp2_with (go_at_call 9; refine (HGO.out wb).mono ?_; rintro e wd ⟨rfl, h1⟩; have HD := Lib.hid (HUP.out wb HB5.out wd h1); clear h1)
      go_ret
      exact ⟨rfl, HD.out⟩
end Go.Proofs.Ytimcpbbcealkiaa

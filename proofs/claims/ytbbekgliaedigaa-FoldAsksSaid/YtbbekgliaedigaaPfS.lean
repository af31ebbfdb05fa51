/- SamePairs (cordwainref10) of two rows that say the same. -/
import Derived.Test.YtbbekgliaedigaaPfA
import Derived.Test.YtbbekgliaedigaaInts
namespace Go.Proofs.Ytbbekgliaedigaa
open Go.RowKit
set_option maxRecDepth 20000

/-- What a pair says. -/
def PItm.says (x : PItm) : ByteArray × ByteArray × Int := (strOf x.bs, strOf x.vs, x.off)

set_option maxHeartbeats 2000000 in
theorem pf.same_true (A : Option Addr) (n c : Nat) (l : List PItm) (B : Option Addr) (d : Nat) (l2 : List PItm) (w : World) (hl : l.length = n) (hn : n ≤ 1000000) (hat : PAt w A l) (hb : ∀ x ∈ l, PBytes w x) (hat2 : PAt w B l2) (hb2 : ∀ x ∈ l2, PBytes w x) (hs : l.map PItm.says = l2.map PItm.says) :
    Calls Try.prog 24 #[.slice A n c, .slice B n d, .bool true] w (QuietTrue w) := by
  have HAT := Lib.hid hat; clear hat
  have HB := Lib.hid hb; clear hb
  have HAT2 := Lib.hid hat2; clear hat2
  have HB2 := Lib.hid hb2; clear hb2
  have HL := Lib.hid hl; clear hl
  have HS := Lib.hid hs; clear hs
  go_enter Try.func24, Try.ntmps24
  go_wp2
  go_loopw [7] (fun i wr => ∃ (k q : Nat), k ≤ n ∧ i = .int .i64 (k : Int) ∧ wr = w.drewN q) (fun i _ => n - (intOf i).toNat)
  case atStart => exact ⟨0, 0, by omega, rfl, rfl⟩
  case round =>
    obtain ⟨k, q, hk, rfl, rfl⟩ := hrel
    by_cases hlt : k < n
    · obtain ⟨x, hx⟩ : ∃ x, l[k]? = some x := ⟨_, List.getElem?_eq_getElem (by rw [HL.out]; exact hlt)⟩
      obtain ⟨y, hy⟩ : ∃ y, l2[k]? = some y := ⟨_, List.getElem?_eq_getElem (by have := congrArg List.length HS.out; simp only [List.length_map] at this; rw [← this, HL.out]; exact hlt)⟩
      have hxy : x.says = y.says := by
        have h1 : (l.map PItm.says)[k]? = some x.says := by rw [List.getElem?_map, hx]; rfl
        rw [HS.out, List.getElem?_map, hy] at h1
        exact (Option.some.inj h1).symm
      obtain ⟨e1, e2⟩ := Prod.mk.inj hxy
      obtain ⟨e2, e3⟩ := Prod.mk.inj e2
      clear hxy
      obtain ⟨b, off, rfl, -, c0, c1, c2⟩ := HAT.out.cells hx
      obtain ⟨b2, off2, rfl, -, d0, d1, d2⟩ := HAT2.out.cells hy
      obtain ⟨hxl, hxk, hxa, hvl, hvk, hva⟩ := HB.out x (List.mem_of_getElem? hx)
      obtain ⟨hyl, hyk, hya, hwl, hwk, hwa⟩ := HB2.out y (List.mem_of_getElem? hy)
      have f1 := fun q => conv_any (P := Try.prog) Try.underlying23 Try.underlying5 Try.underlying9 (c := x.c) x.bs hxl (hxa.drew q)
      have f2 := fun q => conv_any (P := Try.prog) Try.underlying23 Try.underlying5 Try.underlying9 (c := y.c) y.bs hyl (hya.drew q)
      have f3 := fun q => conv_any (P := Try.prog) Try.underlying23 Try.underlying5 Try.underlying9 (c := x.vc) x.vs hvl (hva.drew q)
      have f4 := fun q => conv_any (P := Try.prog) Try.underlying23 Try.underlying5 Try.underlying9 (c := y.vc) y.vs hwl (hwa.drew q)
      rw [← e1] at f2
      rw [← e2] at f4
      rw [← e3] at d2
      have u0 : ∀ q, (w.drewN q).cell? ⟨b, off + k * 3, none⟩ = some (.slice x.A x.k x.c) := fun _ => c0
      have u1 : ∀ q, (w.drewN q).cell? ⟨b, off + k * 3 + 1, none⟩ = some (.slice x.VA x.vk x.vc) := fun _ => c1
      have u2 : ∀ q, (w.drewN q).cell? ⟨b, off + k * 3 + 2, none⟩ = some (.int .i64 x.off) := fun _ => c2
      have v0 : ∀ q, (w.drewN q).cell? ⟨b2, off2 + k * 3, none⟩ = some (.slice y.A y.k y.c) := fun _ => d0
      have v1 : ∀ q, (w.drewN q).cell? ⟨b2, off2 + k * 3 + 1, none⟩ = some (.slice y.VA y.vk y.vc) := fun _ => d1
      have v2 : ∀ q, (w.drewN q).cell? ⟨b2, off2 + k * 3 + 2, none⟩ = some (.int .i64 x.off) := fun _ => d2
      clear hxa hxl hva hvl hya hyl hwa hwl c0 c1 c2 d0 d1 d2 hx hy e1 e2 e3
      generalize strOf x.bs = sx at *
      generalize strOf x.vs = tx at *
      generalize x.A = XA at *
      generalize x.k = xk at *
      generalize x.c = xc at *
      generalize x.VA = XV at *
      generalize x.vk = xvk at *
      generalize x.vc = xvc at *
      generalize x.off = xo at *
      generalize y.A = YA at *
      generalize y.k = yk at *
      generalize y.c = yc at *
      generalize y.VA = YV at *
      generalize y.vk = yvk at *
      generalize y.vc = yvc at *
      have hlt' : (k : Int) < n := by omega
      go_wp2_with fail
      go_quiet (fail)
      go_wp2_with fail
      go_roundw
      case rel => exact ⟨k + 1, _, by omega, by go_num, rfl⟩
      case measure => simp [intOf]; omega
    · obtain rfl : k = n := by omega
      go_wp2
      go_ret
      exact ⟨rfl, _, rfl⟩
end Go.Proofs.Ytbbekgliaedigaa

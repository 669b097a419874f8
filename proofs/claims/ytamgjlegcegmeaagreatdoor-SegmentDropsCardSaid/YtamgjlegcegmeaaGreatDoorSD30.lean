/- Numbers as texts: the library's calls. -/
import Derived.Test.YtamgjlegcegmeaaGreatDoorSD2
import Derived.Test.YtamgjlegcegmeaaGreatDoorSD5
import Derived.Test.YtamgjlegcegmeaaGreatDoorSegLaid
namespace Go.Proofs.YtamgjlegcegmeaaGreatDoor.M
open Go.RowKit

theorem repeatL_zero (c : Nat) : Lib.repeatL [48] c = List.replicate c 48 := by
  have := Lib.repeatL_replicate 48 1 c
  simpa using this

theorem extraSeg : Builder.Extra Tryz.prog Tryz.laysRepeat_ren where
  sizeBuilder := by kernel_rfl
  liesBuilder := by kernel_rfl
  t5 := Tryz.laysRepeat.t5
  a5 := Tryz.laysRepeat.a5
  z5 := Tryz.laysRepeat.z5
  v5 := Tryz.laysRepeat.v5
  infoByte := by kernel_rfl
  cellsByte := by kernel_rfl
  sizeByte := by kernel_rfl
  neB5 := by decide

theorem fItoa : Tryz.laysItoa_ren.f 171 = 82 := by kernel_rfl

theorem fRepeat : Tryz.laysRepeat_ren.f 105 = 83 := by kernel_rfl

/-- The table of powers of ten. -/
def Pow10 (w : World) : Prop := Lib.TabIs Tryz.prog w "internal/strconv.uint64pow10" .u64 Lib.pow10Tab

theorem Pow10.next {w w' : World} (h : Pow10 w) (hb : Below w.heap.size w w') : Pow10 w' := Lib.tabBelow_of_tabIs h w' hb

theorem itoa_any (n : Int) (w : World) (h0 : 0 ≤ n) (h1 : n < 10000000000) (hT : Hid (Pow10 w)) :
    Calls Tryz.prog 82 #[.int .i64 n] w fun e w' => e = .returned (.string ⟨(Lib.decDigits n.toNat).toArray⟩) ∧ Below w.heap.size w w' := by
  have h := Any.strconv_Itoa Tryz.laysItoa n (by omega) (by omega) w hT.out
  rw [fItoa] at h
  refine h.mono ?_
  rintro e w' ⟨rfl, k, os, rfl⟩
  refine ⟨?_, Lib.below_grow _ w (Nat.le_refl _) k os⟩
  unfold Lib.itoa
  rw [if_neg (by omega)]

theorem repeat_any (c : Int) (w : World) (h0 : 0 ≤ c) (h1 : c ≤ 10) :
    Calls Tryz.prog 83 #[.string ⟨#[48]⟩, .int .i64 c] w fun e w' => e = .returned (.string ⟨(List.replicate c.toNat 48).toArray⟩) ∧ Below w.heap.size w w' := by
  have h := Any.strings_Repeat Tryz.laysRepeat extraSeg ⟨#[48]⟩ c.toNat w (by omega) (by show 1 * c.toNat ≤ _; omega)
  rw [fRepeat, Int.toNat_of_nonneg h0] at h
  refine h.mono ?_
  rintro e w' ⟨rfl, hb⟩
  exact ⟨by rw [repeatL_zero], hb⟩

theorem fCut : Tryz.laysCut_ren.f 103 = 70 := by kernel_rfl
end Go.Proofs.YtamgjlegcegmeaaGreatDoor.M

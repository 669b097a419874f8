/- The program's disk: Name, New, Free, Stop, Safe; what is done to one file. -/
import Derived.Test.YtgiipkmkmomofaaProjA
import Derived.Test.YtgiipkmkmomofaaDiskIn
import Derived.Carry
import Derived.StillTailTactics
namespace Go.Proofs.Ytgiipkmkmomofaa.M
open Go.RowKit Go.Maps
open D (Fl Dk)

set_option maxRecDepth 20000 in
set_option maxHeartbeats 1600000 in
theorem PName_any (names : List ByteArray) (F : Nat → Prop) (vn : Value) (w : World) (hv : RepSl w F names vn) (hF : ∀ k, F k → k < w.heap.size) (hs : ∀ s ∈ names, s.size ≤ 9223372036854775807) :
    Calls Try.prog 11 #[vn] w fun e w' => e = .returned (.bool (names.all D.okName)) ∧ Below w.heap.size w w' := by
  obtain ⟨na, nc, rfl, hnl⟩ := hv.slice
  have HV := Lib.hid hv
  have HF := Lib.hid hF
  have HS := Lib.hid hs
  clear hv hF hs
  go_enter Try.func11, Try.ntmps11
  go_wp2_with fail
  go_loopw [4, 7] (fun _ i wr => ∃ k : Nat, k ≤ names.length ∧ i = .int .i64 (k : Int) ∧ Hid ((names.take k).all D.okName = true) ∧ Hid (Below w.heap.size w wr)) (fun _ i _ => names.length - (intOf i).toNat)
  case atStart => exact ⟨0, Nat.zero_le _, rfl, Lib.hid rfl, Lib.hid (Below.refl _ _)⟩
  case round =>
    obtain ⟨k, hk, rfl, HA, HB⟩ := hrel
    by_cases hlt : k < names.length
    · have hkk : (k : Int) < (names.length : Int) := by omega
      have hv2 : RepSl wr F names (.slice na names.length nc) := HV.out.same (fun _ h => h) fun j hj => HB.out.block j (HF.out j hj)
      obtain ⟨b, off, rfl, hFb, hc⟩ := hv2.elem k hlt
      obtain ⟨s, hs⟩ : ∃ s, s = names[k] := ⟨_, rfl⟩
      rw [← hs] at hc
      have HSN := Lib.hid hs
      have hss : s.size ≤ 9223372036854775807 := HS.out s (by rw [hs]; exact List.getElem_mem hlt)
      have HSS := Lib.hid hss
      clear hs hss hv2
      go_wp2_with fail
      refine (IsName_any s _ HSS.out).mono ?_
      rintro e w1 ⟨rfl, hb1⟩
      have HB1 : Hid (Below w.heap.size w w1) := Lib.hid (HB.out.trans (hb1.mono HB.out.size))
      clear hb1
      cases hok : D.okName s with
      | true =>
        have HN : Hid ((names.take (k + 1)).all D.okName = true) := Lib.hid (by
          rw [List.take_succ_eq_append_getElem hlt, List.all_append, HA.out, ← HSN.out]
          simp [hok])
        clear hok
        go_wp2_with fail
        go_roundw
        case rel => exact ⟨k + 1, by omega, by go_num, HN, HB1⟩
        case measure => simp [intOf]; omega
      | false =>
        have HN : Hid (names.all D.okName = false) := Lib.hid (by
          rw [List.all_eq_false]
          exact ⟨names[k], List.getElem_mem hlt, by rw [← HSN.out, hok]; simp⟩)
        clear hok
        go_wp2_with fail
        go_ret
        exact ⟨by rw [HN.out]; rfl, HB1.out⟩
    · have hkk : ¬ (k : Int) < (names.length : Int) := by omega
      obtain rfl : k = names.length := by omega
      have HN : Hid (names.all D.okName = true) := Lib.hid (by
        have := HA.out
        rw [List.take_length] at this
        exact this)
      go_wp2_with fail
      go_ret
      exact ⟨by rw [HN.out]; rfl, HB.out⟩

/-- A new disk. -/
def fresh (n : Int) : Dk := { room := n, fs := [], ends := false, calls := 0 }

theorem New_neg (n : Int) (w : World) (hn : n < 0) : Calls Try.prog 12 #[.int .i64 n] w fun e w' => e = .returned (.tuple #[.pointer none, .int .i64 2]) ∧ w = w' := by
  go_enter Try.func12, Try.ntmps12
  go_wp2_with fail
  go_ret2
  exact ⟨rfl, rfl⟩

set_option maxRecDepth 20000 in
theorem New_any (n : Int) (w : World) (hn : 0 ≤ n) :
    Calls Try.prog 12 #[.int .i64 n] w fun e w' => e = .returned (.tuple #[.pointer (some ⟨w.heap.size + 1, 0, none⟩), .int .i64 0]) ∧ Below w.heap.size w w' ∧ w'.heap.size = w.heap.size + 2 ∧ PDsk w' (fun k => w.heap.size ≤ k ∧ k < w.heap.size + 2) (w.heap.size + 1) (fresh n) := by
  have hmm := @run_makeMap Try.prog
  have hno : decide (n < 0) = false := by simp; omega
  go_enter Try.func12, Try.ntmps12
  go_wp2_with fail
  go_ret2
  refine ⟨rfl, ((Below.refl _ _).alloc (Nat.le_refl _) _).alloc (by simp) _, by simp, w.heap.size, .map [], fun _ => (0, .slice none 0 0), ?_⟩
  have h0 := World.ownsMap_made w Try.prog 9 ptrElem
  refine ⟨?_, (ownsMap_same h0 (Below.heap_alloc _ _ _ (by simp))), fun s z => by simp [fresh, D.isThere, D.find, DataW.atKey], rfl, fun f hf => by simp [fresh] at hf, fun f hf => by simp [fresh] at hf, ⟨by omega, by omega⟩, ⟨by omega, by omega⟩, fun f hf => by simp [fresh] at hf⟩
  have hb := heap_new (w.alloc (.map #[] 0)) (.cells #[.int .i64 n, .int .i64 (-1), .map (some w.heap.size)] 60) (w.heap.size + 1) (by simp)
  rw [hb]
  simp [fresh, restOf, D.Dk.free, D.used]

section
variable (d : Dk) (X : Nat → Prop) (gd : Nat) (w : World)

theorem PFree_any (hd : PDsk w X gd d) : Calls Try.prog 21 #[.pointer (some ⟨gd, 0, none⟩)] w fun e w' => e = .returned (.int .i64 d.free) ∧ w = w' := by
  obtain ⟨gm, M, E, hat⟩ := hd
  obtain ⟨⟨c0, -, -⟩, -, hz⟩ := hat.cells
  clear hat
  go_enter Try.func21, Try.ntmps21
  go_wp2_with fail
  go_ret
  exact ⟨rfl, rfl⟩

theorem PStop_any (n : Int) (hd : PDsk w X gd d) (hn : -9223372036854775808 ≤ n ∧ n ≤ 9223372036854775807) :
    Calls Try.prog 24 #[.pointer (some ⟨gd, 0, none⟩), .int .i64 n] w fun e w' => e = .returned (.tuple #[]) ∧ Only X w w' ∧ PDsk w' X gd (D.stop d n) ∧ w'.heap.size = w.heap.size := by
  obtain ⟨gm, M, E, hat⟩ := hd
  obtain ⟨⟨c0, c1, c2⟩, ⟨f0, f1, f2⟩, hz⟩ := hat.cells
  have HAT := Lib.hid hat
  clear hat
  have hr : ∀ r : Int, r = restOf (D.stop d n) → ∀ wx : World, wx = w.setCell ⟨gd, 1, none⟩ (.int .i64 r) → Only X w wx ∧ PDsk wx X gd (D.stop d n) ∧ wx.heap.size = w.heap.size := fun r e wx ew => by
    subst ew
    have hb := heap_setCell_same _ _ 1 _ _ (.int .i64 r) HAT.out.box
    refine ⟨(Only.refl X w).set (.inl HAT.out.foot.1) _, ⟨gm, M, E, HAT.out.ticked rfl ?_ fun k hk => ?_⟩, by simp⟩
    · rw [hb, e]; simp [D.stop, D.Dk.free]
    · exact Below.heap_setCell _ _ _ _ (by simpa using hk)
  have HR := Lib.hid hr
  clear hr c0 c2 f0 f2
  go_enter Try.func24, Try.ntmps24
  by_cases h : n < -1
  · have h1 : decide ((-1 : Int) < n) = false := by simp; omega
    have hm : max n (-1) = -1 := by omega
    have HE : Hid ((-1 : Int) = restOf (D.stop d n)) := Lib.hid (by unfold restOf D.stop; simp; omega)
    go_wp2_with fail
    go_end0
    exact ⟨rfl, HR.out _ HE.out _ (by simp)⟩
  · have hm : max n (-1) = n := by omega
    have HE : Hid (n = restOf (D.stop d n)) := Lib.hid (by unfold restOf D.stop; simp; split <;> omega)
    go_wp2_with fail
    go_end0
    exact ⟨rfl, HR.out _ HE.out _ (by simp)⟩
end
end Go.Proofs.Ytgiipkmkmomofaa.M

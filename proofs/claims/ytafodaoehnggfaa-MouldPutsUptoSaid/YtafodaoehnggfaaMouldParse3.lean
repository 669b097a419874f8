/- parse and Right of package mould answer as 'shape' does. -/
import Derived.Test.YtafodaoehnggfaaMouldParse2
namespace Go.Proofs.Ytafodaoehnggfaa.M
open Go.RowKit

def ShapePost (w : World) (r : Option Sh) (e : Ending) (w' : World) : Prop :=
  Below w.heap.size w w' ∧ match r with
  | none => e = .returned (.tuple #[.agg #[.int .u8 0, .slice none 0 0, .bool false], .bool false])
  | some sh => ∃ v, e = .returned (.tuple #[v, .bool true]) ∧ RepS w' (fun b => w.heap.size ≤ b ∧ b < w'.heap.size) sh v

set_option maxHeartbeats 800000 in
theorem parse_any (s : ByteArray) (w : World) (hs : s.size ≤ 9223372036854775807) :
    Calls Try.prog 22 #[.string s] w (ShapePost w (shape s.data.toList)) := by
  by_cases hl : 64 < s.size
  · have H : Hid (shape s.data.toList = none) := Lib.hid (by unfold shape; rw [if_pos (by simpa using hl)])
    go_enter Try.func22, Try.ntmps22
    go_wp2_with fail
    refine bodyPost_ret (v := .tuple #[.agg #[.int .u8 0, .slice none 0 0, .bool false], .bool false]) (by simp [results, Try.results22, go_sem]) rfl ?_
    rw [H.out]
    exact ⟨below_alloc _ _, rfl⟩
  · have hl2 : s.size ≤ 64 := by omega
    have H : Hid (shape s.data.toList = match pShape 9 s.data.toList with | some (s, []) => some s | _ => none) := Lib.hid (by unfold shape; rw [if_neg (by simpa using hl)]; rfl)
    go_enter Try.func22, Try.ntmps22
    go_wp2_with fail
    refine (parts 9 s 0 _ 0 _ rfl hl2 (by omega) rfl (by omega)).mono ?_
    rintro e w1 ⟨hb, hr⟩
    obtain ⟨c0, c1, c2, f0, f1, f2, hz⟩ := three_kept hb
    rw [List.drop_zero] at hr
    cases hq : pShape 9 s.data.toList with
    | none =>
      rw [hq] at hr
      subst hr
      have Hq := Lib.hid hq
      clear hq
      go_wp2_with fail
      refine bodyPost_ret (v := .tuple #[.agg #[.int .u8 0, .slice none 0 0, .bool false], .bool false]) (by simp [results, Try.results22, go_sem, c0, c1, c2, hz]) rfl ?_
      rw [H.out, Hq.out]
      exact ⟨((((below_alloc _ _).trans (hb.mono (by simp))).setCell (by simp) _).setCell (by simp) _).setCell (by simp) _ |>.alloc (by simp; omega) _, rfl⟩
    | some x =>
      rw [hq] at hr
      obtain ⟨sh, rest⟩ := x
      obtain ⟨u, k2, rfl, hk4, hrest, hu⟩ := hr
      have Hq := Lib.hid hq
      clear hq
      have Hr := Lib.hid hrest
      clear hrest
      have HU := Lib.hid hu
      obtain ⟨pa, pn, pc, rfl⟩ := hu.agg
      clear hu
      by_cases hk : k2 = s.size
      · have HR : Hid (rest = []) := Lib.hid (by rw [Hr.out, hk]; simp)
        have hk2 : ((k2 : Int) != (s.size : Int)) = false := by simp [hk]
        clear hk
        go_wp2_with fail
        refine bodyPost_ret (v := .tuple #[.agg #[.int .u8 (kind sh), .slice pa pn pc, .bool (solid sh)], .bool true]) (by simp [results, Try.results22, go_sem, c0, c1, c2, hz]) rfl ?_
        rw [H.out, Hq.out, HR.out]
        refine ⟨((((below_alloc _ _).trans (hb.mono (by simp))).setCell (by simp) _).setCell (by simp) _).setCell (by simp) _ |>.alloc (by simp; omega) _, _, rfl, HU.out.same ?_ ?_⟩
        · simp; intro k h1 h2; omega
        · intro k ⟨h1, h2⟩
          simp only [World.size_alloc] at h1
          rw [Below.heap_alloc _ _ _ (by simp; omega)]
          simp (disch := (simp; omega)) only [Below.heap_setCell]
      · have HR : Hid (∃ c r, rest = c :: r) := Lib.hid (by
          rw [Hr.out, drop_cons s k2 (by omega)]; exact ⟨_, _, rfl⟩)
        have hk2 : ((k2 : Int) != (s.size : Int)) = true := by simp; omega
        clear hk
        go_wp2_with fail
        refine bodyPost_ret (v := .tuple #[.agg #[.int .u8 0, .slice none 0 0, .bool false], .bool false]) (by simp [results, Try.results22, go_sem, c0, c1, c2, hz]) rfl ?_
        obtain ⟨c, r, hc⟩ := HR.out
        rw [H.out, Hq.out, hc]
        exact ⟨((((below_alloc _ _).trans (hb.mono (by simp))).setCell (by simp) _).setCell (by simp) _).setCell (by simp) _ |>.alloc (by simp; omega) _, rfl⟩

/-- A slice of strings. -/
def RepT (w : World) (l : List ByteArray) (v : Value) : Prop :=
  ∃ a c, v = .slice a l.length c ∧ l.length ≤ 9223372036854775807 ∧ ∀ (i : Nat) (hi : i < l.length), ∃ b off, a = some ⟨b, off, none⟩ ∧ w.cell? ⟨b, off + i, none⟩ = some (.string l[i]) ∧ l[i].size ≤ 9223372036854775807

set_option maxHeartbeats 800000 in
theorem Right_any (l : List ByteArray) (v : Value) (w : World) (h : RepT w l v) :
    Calls Try.prog 9 #[v] w fun e w' => e = .returned (.bool (l.all fun s => (shape s.data.toList).isSome)) ∧ Below w.heap.size w w' := by
  obtain ⟨a, c, rfl, hm, hc⟩ := h
  have HC := Lib.hid hc
  clear hc
  go_enter Try.func9, Try.ntmps9
  go_wp2_with fail
  go_loopw [9] (fun i wr => ∃ k : Nat, i = .int .i64 (k : Int) ∧ k ≤ l.length ∧ Hid (∀ j (h : j < l.length), j < k → (shape l[j].data.toList).isSome = true) ∧ Below w.heap.size w wr) (fun i _ => l.length - (intOf i).toNat)
  case atStart => exact ⟨0, rfl, by omega, Lib.hid (by omega), Below.refl _ _⟩
  case round =>
    obtain ⟨k, rfl, hk, HB, hB⟩ := hrel
    by_cases hk2 : k < l.length
    · obtain ⟨b, off, rfl, hcell, hsz⟩ := HC.out k hk2
      have hlt := block_lt_of_cell hcell
      have hcell2 : wr.cell? ⟨b, off + k, none⟩ = some (.string l[k]) := by rw [hB.cell hlt]; exact hcell
      clear hcell
      go_wp2_with fail
      refine (parse_any l[k] _ hsz).mono ?_
      rintro e w1 ⟨hb, hr⟩
      cases hq : shape l[k].data.toList with
      | none =>
        rw [hq] at hr
        subst hr
        have Hq := Lib.hid hq
        clear hq
        go_wp2_with fail
        go_ret
        refine ⟨?_, ?_⟩
        · have hall : (l.all fun s => (shape s.data.toList).isSome) = false := by
            rw [List.all_eq_false]
            exact ⟨l[k], List.getElem_mem _, by rw [Hq.out]; simp⟩
          rw [hall]; rfl
        · exact (hB.trans (hb.mono hB.size)).alloc (by have := hB.size; have := hb.size; omega) _
      | some sh =>
        rw [hq] at hr
        obtain ⟨u, rfl, hu⟩ := hr
        have Hq := Lib.hid hq
        clear hq
        obtain ⟨pa, pn, pc, rfl⟩ := hu.agg
        clear hu
        go_wp2_with fail
        go_roundw
        case rel =>
          refine ⟨k + 1, by go_num, by omega, Lib.hid fun j hj h1 => ?_, ?_⟩
          · by_cases h2 : j < k
            · exact HB.out j hj h2
            · obtain rfl : j = k := by omega
              rw [Hq.out]; rfl
          · exact (hB.trans (hb.mono hB.size)).alloc (by have := hB.size; have := hb.size; omega) _
        case measure => simp [intOf]; omega
    · go_wp2_with fail
      go_ret
      refine ⟨?_, hB⟩
      have hall : (l.all fun s => (shape s.data.toList).isSome) = true := by
        rw [List.all_eq_true]
        intro s hs
        obtain ⟨j, hj, rfl⟩ := List.getElem_of_mem hs
        exact HB.out j hj (by omega)
      rw [hall]; rfl
end Go.Proofs.Ytafodaoehnggfaa.M

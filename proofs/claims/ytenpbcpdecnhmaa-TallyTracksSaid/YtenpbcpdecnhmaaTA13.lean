/- Package tally: All. -/
import Derived.Test.YtenpbcpdecnhmaaTA10
import Derived.Test.YtenpbcpdecnhmaaTA11
import Derived.Test.YtenpbcpdecnhmaaTA12
import Derived.Sort.KeysCollected
namespace Go.Proofs.Ytenpbcpdecnhmaa.M
open Go.RowKit Go.Maps Go.Sort Go.Shelf

theorem Keys_any (mb : Option Nat) (w : World) : Calls Try.prog 34 #[.map mb] w fun e w' => e = .returned (.func (.func 38) #[] #[.pointer (some ⟨w.heap.size, 0, none⟩)]) ∧ w' = w.alloc (.cells #[.map mb] 67) :=
  (callsIn_wide (n := 5)).1 (AnyZI.keys_in Try.keysA Fence.wide 5 trivial rfl mb w)

theorem sortsA (m : Nat) : AnyZI.SortsIn Try.prog Try.sortedA_ren Fence.wide m :=
  ⟨fun blk off cap ss W hH hblk hsz => callsIn_wide.2 (AnyM.slices_Sort_int Try.sortA blk off cap ss W hH hblk hsz), fun p cap W => callsIn_wide.2 (AnyM.slices_Sort_int_none Try.sortA p cap W)⟩

theorem SortedKeys_any (b nn : Nat) (D0 : DataW Nat) (R : Value → Option (DataW Nat × List MemPlace)) (w : World) (hown : w.ownsMap Try.prog 3 R b nn D0) (hn : nn ≤ 1000000) :
    Calls Try.prog 33 #[.func (.func 38) #[] #[.pointer (some ⟨w.heap.size, 0, none⟩)]] (w.alloc (.cells #[.map (some b)] 67)) fun e w' =>
      ∃ (v : Value) (ss : List Int), e = .returned v ∧ ss.Perm (intKeys D0) ∧ w'.ownsRow w.heap.size 3 1 v ss.length ((ss.mergeSort (fun x y => decide (x ≤ y))).map encZ) ∧ Below w.heap.size w w' := by
  have hsz := hown.size_le
  have hbl := hown.lt
  have hseq : SeqGives Fence.wide 2 Try.prog 38 #[.pointer (some ⟨w.heap.size, 0, none⟩)] encZ (fun ss => ss.Perm (intKeys D0)) (Maps.size D0) (w.alloc (.cells #[.map (some b)] 67)) :=
    AnyZI.keys_gives (ρ := Try.keysA_ren) { Try.keysA with } Fence.wide _ trivial rfl (by omega) w.heap.size b nn D0 _ (by simp) (by simp) (by
      obtain ⟨es, clock, hb, Ft, hs, hD⟩ := hown
      exact ⟨es, clock, (Below.heap_alloc _ _ b hbl).trans hb, Ft, hs, hD⟩)
  have cS := AnyZI.sorted_in Try.sortedA Fence.wide 5 trivial trivial trivial trivial rfl (by omega) (sortsA _) (enters_of Try.func27 (by kernel_rfl) rfl) 38 #[.pointer (some ⟨w.heap.size, 0, none⟩)] trivial (enters_of Try.func38 (by kernel_rfl) rfl) _ (Maps.size D0) (by unfold maxLen; omega) (by omega) _ hseq
  refine ((callsIn_wide (n := 5)).1 cS).mono ?_
  rintro e w' ⟨v, ss, rfl, hS, hrow, hnil, hb⟩
  exact ⟨v, ss, rfl, hS, ownsRow_base_a hrow (by simp), ((Below.refl _ w).alloc (Nat.le_refl _) _).trans (hb.mono (by simp))⟩

/-- The keys, sorted, are the list's numbers. -/
theorem sorted_ids {w : World} {gm n : Nat} {M : DataW Nat} {l : List Pr} {f : Int → Option (Int × Int)} (h : w.ownsMap Try.prog 3 rP gm n M) (hM : ∀ k z, M.atKey (.int .i64 k) z = match f k with | some p => peerD p | none => z) (hr : Rel l f) {ss : List Int} (hp : ss.Perm (intKeys M)) :
    ss.mergeSort (fun x y => decide (x ≤ y)) = l.map (·.1) := by
  obtain ⟨es, hes, hpw⟩ := h.tidy lawInt
  obtain ⟨es', hes', hko⟩ := h.keysOf
  obtain rfl : es = es' := by rw [hes] at hes'; simpa using hes'
  have hs : (l.map (·.1)).Pairwise (· < ·) := List.pairwise_map.2 hr.sorted
  have hp2 : (l.map (·.1)).Perm (intKeys M) := by
    rw [hes]
    refine perm_intKeys hpw (fun p hp => by obtain ⟨v, hv⟩ := hko p hp; obtain ⟨x, _, hx, _⟩ := Maps.keyOf_i64 Try.underlying3 hv; exact ⟨x, hx⟩) (hs.imp fun {a b} hab => by omega) fun x => ?_
    rw [← hes, PMat.has hM]
    constructor
    · intro hx
      obtain ⟨⟨i, m, nx⟩, hx1, rfl⟩ := List.mem_map.1 hx
      rw [(hr.mem i m nx).1 hx1]; rfl
    · intro hx
      cases hf : f x with
      | none => rw [hf] at hx; cases hx
      | some p => exact List.mem_map.2 ⟨(x, p.1, p.2 + 1), (hr.mem _ _ _).2 (by rw [hf]; simp), rfl⟩
  rw [show ss.mergeSort (fun x y => decide (x ≤ y)) = (l.map (·.1)).mergeSort leI from mergeSort_of_perm_i (hp.trans hp2.symm)]
  exact List.mergeSort_of_pairwise (hs.imp fun {a b} hab => by simp; omega)

/-- What All answers. -/
def allOf (l : List Pr) : List (Int × Int) := l.map fun x => (x.1, x.2.1)

theorem allOf_take {l : List Pr} {k : Nat} (hk : k < l.length) : allOf (l.take (k + 1)) = allOf (l.take k) ++ [(l[k].1, l[k].2.1)] := by
  unfold allOf
  rw [List.take_add_one, List.getElem?_eq_getElem hk, Option.toList_some, List.map_append]
  rfl

def AllPost (l : List Pr) (w : World) (e : Ending) (w' : World) : Prop := ∃ v, e = .returned v ∧ OwnM w (allOf l) v w'

set_option maxRecDepth 20000 in
set_option maxHeartbeats 3200000 in
theorem All_any (gt gm n : Nat) (l : List Pr) (f : Int → Option (Int × Int)) (w : World) (h : TrackAt w gt gm n f) (hr : Rel l f) (hn : n ≤ 1000000) (hl : l.length ≤ 1000000) (hin : ∀ x ∈ l, In1 x.1 ∧ In1 x.2.1) :
    Calls Try.prog 22 #[.pointer (some ⟨gt, 0, none⟩)] w (AllPost l w) := by
  obtain ⟨M, hown, hM⟩ := h.map
  have HSK := Lib.hid (SortedKeys_any gm n M rP w hown hn)
  have HSI : Hid (∀ ss : List Int, ss.Perm (intKeys M) → ss.mergeSort (fun x y => decide (x ≤ y)) = l.map (·.1)) := Lib.hid fun ss hp => sorted_ids hown hM hr hp
  have H := Lib.hid h
  have HR := Lib.hid hr
  have HIN := Lib.hid hin
  obtain ⟨q, hq⟩ : ∃ q, q = l.length := ⟨_, rfl⟩
  rw [← hq] at hl
  have HQ := Lib.hid hq
  obtain ⟨c0, -, cz⟩ := trk1 h.box
  clear h hown hM hr hin hq
  go_enter Try.func22, Try.ntmps22
  go_wp2_with fail
  refine (Keys_any (some gm) w).mono ?_
  rintro e w1 ⟨rfl, rfl⟩
  go_wp2_with fail
  refine HSK.out.mono ?_
  rintro e w2 ⟨v, ss, rfl, hp, hrow, hb⟩
  have hlen : ss.length = q := by
    have := congrArg List.length (HSI.out ss hp)
    rw [List.length_mergeSort, List.length_map] at this
    rw [this, ← HQ.out]
  rw [HSI.out ss hp, hlen] at hrow
  have hir : IR w.heap.size (l.map (·.1)) v w2 := ⟨by rw [List.length_map, ← HQ.out]; exact hrow, fun x hx => by
    obtain ⟨y, hy, rfl⟩ := List.mem_map.1 hx
    exact (HIN.out y hy).1⟩
  obtain ⟨va, vc, hv⟩ := hir.slice
  rw [List.length_map, ← HQ.out] at hv
  subst hv
  have HIR := Lib.hid hir
  have HB := Lib.hid hb
  clear hp hrow hb hlen hir HSK HSI
  go_wp2_with fail
  go_loopw [3, 13] (fun v i wr => ∃ k : Nat, k ≤ q ∧ i = .int .i64 (k : Int) ∧ Hid (OwnM w2 (allOf (l.take k)) v wr)) (fun _ i _ => q - (intOf i).toNat)
  case atStart => exact ⟨0, Nat.zero_le _, rfl, Lib.hid (by simpa [allOf] using OwnM.bare (Below.refl _ _))⟩
  case round =>
    obtain ⟨k, hk, rfl, HO⟩ := hrel
    obtain ⟨oa, oc, hov⟩ := HO.out.2.slice
    have hol : (allOf (l.take k)).length = k := by unfold allOf; rw [List.length_map, List.length_take, ← HQ.out]; omega
    rw [hol] at hov
    subst hov
    by_cases hlt : k < q
    · have hkk : (k : Int) < (q : Int) := by omega
      have hk2 : k < l.length := by rw [← HQ.out]; exact hlt
      obtain ⟨b, off, rfl, -, e0, -, -⟩ := (HIR.out.next HO.out.1).rep.elem' (m := q) (by rw [List.length_map]; exact HQ.out) k hlt
      obtain ⟨id, hid⟩ : ∃ id, id = l[k].1 := ⟨_, rfl⟩
      obtain ⟨m, hm⟩ : ∃ m, m = l[k].2.1 := ⟨_, rfl⟩
      simp only [List.getElem_map] at e0
      rw [← hid] at e0
      have hin := HIN.out l[k] (List.getElem_mem hk2)
      rw [← hid, ← hm] at hin
      have ht2 := (H.out.next HB.out).next HO.out.1
      have hf : f id = some (m, l[k].2.2 - 1) := (HR.out.mem id m l[k].2.2).1 (by rw [hid, hm]; exact List.getElem_mem hk2)
      have HMT := Lib.hid (match_any gt gm n f id hin.1 wr ht2)
      rw [show matchOf f id = m by unfold matchOf peerOf; rw [hf]; rfl] at HMT
      have HA : Hid (allOf (l.take (k + 1)) = allOf (l.take k) ++ [(id, m)]) := Lib.hid (by rw [allOf_take hk2, hid, hm])
      have HI2 : Hid (In64p (id, m)) := Lib.hid hin
      clear hid hm hin ht2 hf hk2
      go_wp2_with fail
      refine HMT.out.mono ?_
      rintro e w3 ⟨rfl, rfl⟩
      go_wp2_with (at_builtin; refine wpList_own_match rfl (.tmp 17) (.tmp 23) rfl (w := w2) (L := allOf (l.take k)) (L2 := [(id, m)]) rfl (HO.out.next (below_alloc _ _)) rfl (RepM.one' rfl HI2.out) (by rw [hol]; simp; omega) ?_)
      intro v4 w4 ho4 _
      rw [← HA.out] at ho4
      have HO4 := Lib.hid ho4
      clear ho4
      go_wp2_with fail
      go_roundw
      case rel => exact ⟨k + 1, by omega, by go_num, HO4⟩
      case measure => simp only [intOf]; omega
    · obtain rfl : k = q := by omega
      have hkk : ¬ ((k : Nat) : Int) < (k : Int) := by omega
      have HD : Hid (OwnM w2 (allOf l) (.slice oa k oc) wr) := Lib.hid (by have := HO.out; rw [HQ.out, List.take_length, ← HQ.out] at this; exact this)
      clear HO hol
      go_wp2_with fail
      go_ret
      exact ⟨_, rfl, HB.out.trans (HD.out.1.mono HB.out.size), ownsRow_base_a HD.out.2.own HB.out.size, HD.out.2.rng⟩
end Go.Proofs.Ytenpbcpdecnhmaa.M

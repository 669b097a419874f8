/- parseRow of package mould reads rows as pRow does; so all three parsers read as pShape does. -/
import Derived.Test.YtafodaoehnggfaaMouldParse1
namespace Go.Proofs.Ytafodaoehnggfaa.M
open Go.RowKit

theorem infoPart : (Try.prog.info? 50).map (fun i => (i.zero, i.size, i.bytes)) = some (some (.agg #[.int .u8 0, .slice none 0 0, .bool false]), 3, 40) := by kernel_rfl

/-- The state at the head of parseRow's loop: i parts are read, up to place k1. -/
def RowAt (s : ByteArray) (k d : Nat) (w : World) (k1 : Nat) (wr : World) : Prop :=
  ∃ (l : List Sh) (a : Option Addr) (n c : Nat) (xs : List Value), k ≤ k1 ∧ k1 ≤ s.size ∧ l.length ≤ k1 - k ∧
    pRow (pShape d) (s.size - k + 1) (s.data.toList.drop k) = cat l (pRow (pShape d) (s.size - k + 1 - l.length) (s.data.toList.drop k1)) ∧
    Below (w.heap.size + 1) (w.alloc (.cells #[.int .u8 0, .slice none 0 0, .bool false] 50)) wr ∧
    wr.heap[w.heap.size + 1]? = some (.cells #[.int .u8 91, .slice a n c, .bool (solids l)] 50) ∧
    wr.ownsRow (w.heap.size + 2) 50 3 (.slice a n c) l.length xs ∧
    Kids (RepS wr fun b => w.heap.size + 2 ≤ b ∧ b < wr.heap.size ∧ (Value.slice a n c).ownBlock ≠ some b) l xs

set_option maxHeartbeats 800000 in
theorem row_of_part {d : Nat} (hp : PartSaid d) : RowSaid d := by
  rintro s k _ nest w rfl hs hk hn hd
  have HN := Lib.hid hn
  have HP : Hid (PartSaid d) := Lib.hid hp
  clear hn hp
  go_enter Try.func36, Try.ntmps36
  go_wp2_with fail
  go_loopw [1] (fun i wr => ∃ k1 : Nat, i = .int .i64 (k1 : Int) ∧ RowAt s k d w k1 wr) (fun i _ => s.size - (intOf i).toNat)
  case atStart =>
    refine ⟨k, rfl, [], none, 0, 0, [], by omega, hk, by simp, cat_nil _, ?_, heap_new _ _ _ (by simp), World.ownsRow_nil _ _ _ _, rfl⟩
    exact (Below.refl _ _).alloc (by simp) _
  case round =>
    obtain ⟨k1, rfl, l, a, n, c, xs, hk1, hk2, hl, hsp, hB, hall, hown, hkids⟩ := hrel
    obtain ⟨c0, c1, c2, f0, f1, f2, hz⟩ := block3 ((hB.block w.heap.size (by omega)).trans (heap_new w _ _ rfl))
    obtain ⟨a0, a1, a2, g0, g1, g2, hz2⟩ := block3 hall
    have HS := Lib.hid hsp
    have HA := Lib.hid hall
    clear hsp hall
    by_cases hk3 : k1 < s.size
    · have HC : Hid (s.data.toList.drop k1 = s[k1] :: s.data.toList.drop (k1 + 1)) := Lib.hid (drop_cons s k1 hk3)
      by_cases h93 : (((s[k1].toNat : Int) != 93) = true)
      · go_wp2_with fail
        refine (HP.out s k1 _ nest _ rfl hs (by omega) HN.out (by omega)).mono ?_
        rintro e1 w1 ⟨hb, hr⟩
        obtain ⟨c0, c1, c2, f0, f1, f2, hz⟩ := block3 ((hb.block w.heap.size (by omega)).trans ((hB.block w.heap.size (by omega)).trans (heap_new w _ _ rfl)))
        have HA1 := Lib.hid ((hb.block (w.heap.size + 1) (by omega)).trans HA.out)
        obtain ⟨a0, a1, a2, g0, g1, g2, hz2⟩ := block3 HA1.out
        have hb9 : s[k1] ≠ 93 := by
          have e := byte_lit s[k1] 93 (by decide)
          simp only [Int.cast_ofNat_Int] at e
          intro h; rw [h] at h93; simp at h93
        cases hq : pShape d (s.data.toList.drop k1) with
        | none =>
          rw [hq] at hr
          subst hr
          have Hq := Lib.hid hq
          clear hq
          go_wp2_with fail
          refine bodyPost_ret (v := .tuple #[.agg #[.int .u8 0, .slice none 0 0, .bool false], .int .i64 0, .bool false]) (by simp [results, Try.results36, go_sem, c0, c1, c2, hz]) rfl ?_
          have Hq1 := Hq.out
          rw [HC.out] at Hq1
          rw [HS.out, HC.out, show s.size - k + 1 - l.length = (s.size - k - l.length) + 1 from by omega, cat_fails hb9 Hq1]
          exact ⟨((((below_behind hB).trans (hb.mono (by omega))).setCell (by simp) _).setCell (by simp) _).setCell (by simp) _ |>.alloc (by simp; omega) _, rfl⟩
        | some x =>
          rw [hq] at hr
          obtain ⟨sh, rest⟩ := x
          obtain ⟨u, k2, rfl, hk4, hrest, hu⟩ := hr
          have Hq := Lib.hid hq
          clear hq
          have Hr := Lib.hid hrest
          clear hrest
          have HU := Lib.hid hu
          obtain ⟨pa, pn, pc, rfl⟩ := hu.agg
          clear hu
          have hown1 := hown.kept (grown_of_below hb) (by cases (Value.slice a n c).ownBlock <;> simp)
          obtain ⟨ip, hip, hip0, hip1, hip2⟩ := info_parts infoPart
          go_wp2_with (at_builtin; go_loud (refine wpList_append_own2 _ rfl _ _ 48 rfl (w.heap.size + 2) 50 ip (.agg #[.int .u8 0, .slice none 0 0, .bool false]) 3 40 Try.underlying48 hip hip0 hip1 hip2 rfl (by decide) _ _ _ rfl ((hown1.alloc _).alloc _) ⟨w1.heap.size + 1, 0, none⟩ 1 1 [.int .u8 (kind sh), .slice pa pn pc, .bool (solid sh)] rfl rfl ?c1 ?c2 ?c3 ?c4 ?c5 ?_))
          case c1 => exact three_new (by simp)
          case c2 => intro u hu; simp at hu; rcases hu with rfl | rfl | rfl <;> rfl
          case c3 => unfold maxLen; omega
          case c4 => omega
          case c5 => simp; omega
          intro v' w4 hown2 hg _ hwhere
          have hE := grown_keeps ((hown1.alloc _).alloc _) hg (by omega) (old_alloc (old_alloc HA1.out))
          have hE0 := grown_keeps ((hown1.alloc _).alloc _) hg (by omega) (old_alloc (old_alloc (old_below (((hB.block w.heap.size (by omega)).trans (heap_new w _ _ rfl))) hb)))
          obtain ⟨c0, c1, c2, f0, f1, f2, hz⟩ := block3 hE0
          obtain ⟨a0, a1, a2, g0, g1, g2, hz2⟩ := block3 hE
          have HE := Lib.hid hE
          have HE0 := Lib.hid hE0
          clear hE hE0
          obtain ⟨a', c', hv'⟩ := owned_slice hown2
          subst hv'
          have hE2 : w4.heap[w1.heap.size]? = some (.cells #[.int .u8 (kind sh), .slice pa pn pc, .bool (solid sh)] 50) := by
            rw [hg.block w1.heap.size (by simp; omega) ?_]
            · exact old_alloc (heap_new _ _ _ rfl)
            · intro h1
              have := (hown.lt w1.heap.size h1.symm).2
              have := hb.size
              omega
          obtain ⟨b0, b1, b2, _, _, _, hz3⟩ := block3 hE2
          clear hE2
          have hk5 : k1 < k2 := by
            have := pShape_less _ _ _ _ Hq.out
            rw [Hr.out] at this
            simp at this
            omega
          have hstep : ∀ so, so = solids (l ++ [sh]) → RowAt s k d w k2 ((w4.setCell ⟨w.heap.size + 1, 1, none⟩ (.slice a' (l.length + 1) c')).setCell ⟨w.heap.size + 1, 2, none⟩ (.bool so)) := by
            rintro so rfl
            have hq2 := Hq.out
            rw [HC.out] at hq2
            have hbs := hb.size
            refine ⟨l ++ [sh], a', l.length + 1, c', xs ++ [.int .u8 (kind sh), .slice pa pn pc, .bool (solid sh)], by omega, hk4, by simp; omega, ?_, ?_, ?_, ?_, ?_⟩
            · rw [HS.out, HC.out, show s.size - k + 1 - l.length = (s.size - k - l.length) + 1 from by omega, cat_step hb9 hq2, Hr.out]
              simp
            · have h4 : Below (w.heap.size + 1) w1 w4 := (((Below.refl _ w1).alloc (by omega) _).alloc (by simp; omega) _).grown hg (by simp; omega) (fun k hk => by have := (hown.lt k hk).1; omega)
              exact (((hB.trans (hb.mono (by omega))).trans h4).setCell (by simp) _).setCell (by simp) _
            · rw [heap_setCell_same _ _ _ _ _ _ (heap_setCell_same _ _ _ _ _ _ HE.out)]
              simp
            · rw [show (l ++ [sh]).length = l.length + 1 from by simp]
              exact ownsRow_setCell_below (ownsRow_setCell_below hown2 (by simp) _) (by simp) _
            · have hkeep : ∀ b, w.heap.size + 2 ≤ b → b < w1.heap.size → (Value.slice a n c).ownBlock ≠ some b → ((w4.setCell ⟨w.heap.size + 1, 1, none⟩ (.slice a' (l.length + 1) c')).setCell ⟨w.heap.size + 1, 2, none⟩ (.bool (solids (l ++ [sh])))).heap[b]? = w1.heap[b]? := by
                intro b h1 h2 h3
                rw [Below.heap_setCell _ _ _ _ (by simp; omega), Below.heap_setCell _ _ _ _ (by simp; omega), hg.block b (by simp; omega) (fun h => h3 h.symm),
                  Below.heap_alloc _ _ _ (by simp; omega), Below.heap_alloc _ _ _ h2]
              have hnew : ∀ b, b < w1.heap.size → (Value.slice a n c).ownBlock ≠ some b → (Value.slice a' (l.length + 1) c').ownBlock ≠ some b := by
                intro b h2 h3 h4
                rcases hwhere with h5 | h5
                · exact h3 (h5.symm.trans h4)
                · rw [h4] at h5; simp at h5; omega
              have hz9 : w1.heap.size < w4.heap.size := hz3
              refine Kids.snoc (HU.out.same ?_ ?_) (hkids.mono fun s u h => h.same ?_ ?_)
              · intro b ⟨h1, h2⟩
                have h3 : (Value.slice a n c).ownBlock ≠ some b := fun h => by have := (hown.lt b h).2; omega
                exact ⟨by omega, by simp; omega, hnew b h2 h3⟩
              · intro b ⟨h1, h2⟩
                exact hkeep b (by omega) h2 fun h => by have := (hown.lt b h).2; omega
              · intro b ⟨h1, h2, h3⟩
                exact ⟨h1, by simp; omega, hnew b (by omega) h3⟩
              · intro b ⟨h1, h2, h3⟩
                rw [hkeep b h1 (by omega) h3, hb.block b h2]
          have HStep := Lib.hid hstep
          clear hstep
          go_wp2_with fail
          · go_roundw
            case rel => exact ⟨k2, rfl, HStep.out _ (by rw [solids_snoc]; simp [*])⟩
            case measure => simp [intOf]; omega
          · go_roundw
            case rel => exact ⟨k2, rfl, HStep.out _ (by rw [solids_snoc]; simp [*])⟩
            case measure => simp [intOf]; omega
      · have h94 : ((s[k1].toNat : Int) != 93) = false := by simpa using h93
        go_wp2_with fail
        refine bodyPost_ret (v := .tuple #[.agg #[.int .u8 91, .slice a n c, .bool (solids l)], .int .i64 ((k1 + 1 : Nat) : Int), .bool true]) (by simp [results, Try.results36, go_sem, c0, c1, c2]) rfl ?_
        have h5 : s[k1] = 93 := by
          have e := byte_lit s[k1] 93 (by decide)
          have e2 : ((s[k1].toNat : Int) == 93) = true := by simpa [bne] using h94
          simp only [Int.cast_ofNat_Int] at e
          rw [e2] at e
          simpa using e.symm
        rw [HS.out, HC.out, h5, show s.size - k + 1 - l.length = (s.size - k - l.length) + 1 from by omega, cat_ends]
        refine ⟨(((below_behind hB).setCell (by simp) _).setCell (by simp) _).setCell (by simp) _, _, k1 + 1, rfl, by omega, rfl, ?_⟩
        unfold RepS
        refine ⟨_, rfl, ?_⟩
        rcases owned_kids hown hkids with h1 | ⟨b, c', hv, ho, hb, hlt, h3, h4, hx⟩
        · exact .inl h1
        · refine .inr ⟨b, 0, c', hv, ⟨by omega, by simp; omega⟩, RepSs.of l fun i hi => ?_⟩
          obtain ⟨u, ha, hu⟩ := hx i hi
          refine ⟨u, ha.same ?_, hu.same ?_ ?_⟩
          · simp (disch := (simp; omega)) only [heap_setCell_other]
          · simp; intro k h1 h2 _; omega
          · intro k ⟨h1, h2, _⟩
            simp (disch := (simp; omega)) only [heap_setCell_other]
    · have HD : Hid (s.data.toList.drop k1 = []) := Lib.hid (List.drop_of_length_le (by simp; omega))
      have hk4 : s.size ≤ k1 := by omega
      go_wp2_with fail
      refine bodyPost_ret (v := .tuple #[.agg #[.int .u8 0, .slice none 0 0, .bool false], .int .i64 0, .bool false]) (by simp [results, Try.results36, go_sem, c0, c1, c2]) rfl ?_
      rw [HS.out, HD.out, cat_short]
      exact ⟨(((below_behind hB).setCell (by simp) _).setCell (by simp) _).setCell (by simp) _, rfl⟩

theorem parts : ∀ d, PartSaid d
  | 0 => part_of (by omega) (by omega)
  | d + 1 => part_of (fun e h => by obtain rfl : d = e := by omega
                                    exact list_of_part (parts d)) (fun e h => by obtain rfl : d = e := by omega
                                                                                 exact row_of_part (parts d))
end Go.Proofs.Ytafodaoehnggfaa.M

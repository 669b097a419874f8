/- Package hard: the newest slot, what a disk has, what is opened. The document's Slot. The document's hard state: Follows, Read. The document's On. echelonref01.Number: a number's form by definition. The document's hard state: Bytes. The document's examples, as law 3's statements begin with them. Package hard: a slot written anew. -/
import Derived.Test.YtgakcaobalfpjaaGreatDoorHS8
import Derived.Test.YtgakcaobalfpjaaGreatDoorHS7
import Derived.Test.YtgakcaobalfpjaaGreatDoorHS5
import Derived.Test.YtgakcaobalfpjaaGreatDoorHS4
import Derived.Test.YtgakcaobalfpjaaGreatDoorHS6
import Derived.Test.YtgakcaobalfpjaaGreatDoorHS3
import Derived.Lib.SlBytesConst
/- Part: PHard4. -/
namespace Go.Proofs.YtgakcaobalfpjaaGreatDoor.M
open Go.RowKit Go.Maps
open D (Fl Dk)

theorem block2 {w : World} {g : Nat} {x y : Value} {t : TypeId} (h : w.heap[g]? = some (.cells #[x, y] t)) :
    w.cell? ⟨g, 0, none⟩ = some x ∧ w.cell? ⟨g, 1, none⟩ = some y ∧ w.frozen? ⟨g, 0, none⟩ = false ∧ w.frozen? ⟨g, 1, none⟩ = false ∧ g < w.heap.size :=
  ⟨cell_of_row w g 0 _ t _ h, cell_of_row w g 1 _ t _ h, frozen_of_row w g 0 _ t h, frozen_of_row w g 1 _ t h, lt_of_heap h⟩

theorem newest_first {fs : List Fl} (h1 : 0 < (pslot (bytesOf fs nmH0)).1) (h2 : (pslot (bytesOf fs nmH1)).1 ≤ (pslot (bytesOf fs nmH0)).1) :
    newest fs = (0, (pslot (bytesOf fs nmH0)).1, (pslot (bytesOf fs nmH0)).2) := by
  unfold newest pslot at *
  split at h1
  · simp at h1
  · rename_i h3
    rw [if_neg (fun h => h3 h.1), if_neg h3, if_neg]
    rw [if_neg h3] at h2
    split at h2
    · rename_i h4; omega
    · omega

theorem newest_second {fs : List Fl} (h : ¬ (0 < (pslot (bytesOf fs nmH0)).1 ∧ (pslot (bytesOf fs nmH1)).1 ≤ (pslot (bytesOf fs nmH0)).1)) :
    (newest fs).2 = ((pslot (bytesOf fs nmH1)).1, (pslot (bytesOf fs nmH1)).2) ∧ other (newest fs).1 = nmH0 := by
  unfold newest pslot at *
  by_cases h0 : (slot (bytesOf fs nmH0)).1 = 0
  · by_cases h1 : (slot (bytesOf fs nmH1)).1 = 0
    · rw [if_pos ⟨h0, h1⟩, if_pos h1]; exact ⟨rfl, rfl⟩
    · rw [if_neg (fun h => h1 h.2), if_pos (by omega), if_neg h1]; exact ⟨rfl, rfl⟩
  · rw [if_neg h0] at h
    by_cases h1 : (slot (bytesOf fs nmH1)).1 = 0
    · rw [if_pos h1] at h
      exfalso; apply h; exact ⟨by omega, by simp⟩
    · rw [if_neg h1] at h ⊢
      rw [if_neg (fun h => h1 h.2), if_pos (by omega)]; exact ⟨rfl, rfl⟩

set_option maxRecDepth 20000 in
set_option maxHeartbeats 1600000 in
theorem slots_any (d : Dk) (X : Nat → Prop) (gd : Nat) (w : World) (hd : PDskIn w X gd d) (hr : D.Rising d.fs) (hu : D.used d.fs ≤ 1099511627776) (hT : Hid (Tab w)) :
    Calls Tryz.prog 37 #[.pointer (some ⟨gd, 0, none⟩)] w fun e w' => e = .returned (.tuple #[slotV (newest d.fs).2.1 (newest d.fs).2.2, .string (other (newest d.fs).1)]) ∧ Below w.heap.size w w' := by
  obtain ⟨W, hW⟩ : ∃ W, W = w.alloc (.cells #[.int .i64 0, .int .i64 0, .int .i64 0] 87) := ⟨_, rfl⟩
  have HB1 : Hid (Below w.heap.size w W) := Lib.hid (by rw [hW]; exact below_alloc _ _)
  have hbox : W.heap[w.heap.size]? = some (.cells #[.int .i64 0, .int .i64 0, .int .i64 0] 87) := by rw [hW]; exact heap_new _ _ _ rfl
  have HBOX := Lib.hid hbox
  have HD := Lib.hid hd
  have HR := Lib.hid hr
  have HU := Lib.hid hu
  have HW := Lib.hid hW
  clear hW hbox hd hr hu
  go_enter Tryz.func37, Tryz.ntmps37
  go_wp2_with fail
  rw [← HW.out]
  refine (read_any d X gd nmH0 W (HD.out.next HB1.out) HR.out (by decide) HU.out (Lib.hid (hT.out.next HB1.out))).mono ?_
  rintro e w1 ⟨rfl, hb1⟩
  have HB2 : Hid (Below w.heap.size w w1) := Lib.hid (HB1.out.trans (hb1.mono HB1.out.size))
  have HX1 := Lib.hid (old_below HBOX.out hb1)
  obtain ⟨a, ha⟩ : ∃ a, a = pslot (bytesOf d.fs nmH0) := ⟨_, rfl⟩
  rw [← ha]
  have HA := Lib.hid ha
  clear hb1 ha
  obtain ⟨ac, at', av⟩ := a
  simp only [slotV]
  go_wp2_with fail
  refine (read_any d X gd nmH1 w1 (HD.out.next HB2.out) HR.out (by decide) HU.out (Lib.hid (hT.out.next HB2.out))).mono ?_
  rintro e w2 ⟨rfl, hb2⟩
  have HB3 : Hid (Below w.heap.size w w2) := Lib.hid (HB2.out.trans (hb2.mono HB2.out.size))
  have hbox2 := old_below HX1.out hb2
  obtain ⟨b, hb⟩ : ∃ b, b = pslot (bytesOf d.fs nmH1) := ⟨_, rfl⟩
  rw [← hb]
  have HB := Lib.hid hb
  clear hb2 hb
  obtain ⟨bc, bt, bv⟩ := b
  simp only [slotV]
  obtain ⟨c0, c1, c2, f0, f1, f2, hz⟩ := block3 hbox2
  clear hbox2
  have hzz := HB3.out.size
  by_cases h1 : 0 < ac ∧ bc ≤ ac
  · have HN : Hid ((newest d.fs).2 = (ac, at', av) ∧ other (newest d.fs).1 = nmH1) := Lib.hid (by
      have h2 := newest_first (fs := d.fs) (by rw [← HA.out]; exact h1.1) (by rw [← HA.out, ← HB.out]; exact h1.2)
      rw [h2, ← HA.out]; exact ⟨rfl, rfl⟩)
    have q1 : (0 : Int) < (ac : Int) := by omega
    have q2 : (bc : Int) ≤ (ac : Int) := by omega
    clear h1
    go_wp2_with fail
    refine bodyPost_ret (v := .tuple #[.agg #[.int .i64 (ac : Int), .int .i64 at', .int .i64 av], .string nmH1]) (by simp [results, Tryz.results37, go_sem, c0, c1, c2, hz, slotV, nmH1]) rfl ?_
    refine ⟨?_, ?_⟩
    · rw [HN.out.1, HN.out.2]; rfl
    · exact ((((HB3.out.setCell (by simp) _).setCell (by simp) _).setCell (by simp) _).alloc (by simp; omega) _).alloc (by simp; omega) _
  · have HN : Hid ((newest d.fs).2 = (bc, bt, bv) ∧ other (newest d.fs).1 = nmH0) := Lib.hid (by
      have h2 := newest_second (fs := d.fs) (by rw [← HA.out, ← HB.out]; exact h1)
      rw [h2.1, ← HB.out]; exact ⟨rfl, h2.2⟩)
    rcases (show ¬ (0 : Int) < (ac : Int) ∨ ((0 : Int) < (ac : Int) ∧ ¬ (bc : Int) ≤ (ac : Int)) by omega) with q1 | ⟨q1, q2⟩
    all_goals
      clear h1
      go_wp2_with fail
      refine bodyPost_ret (v := .tuple #[.agg #[.int .i64 (bc : Int), .int .i64 bt, .int .i64 bv], .string nmH0]) (by simp [results, Tryz.results37, go_sem, c0, c1, c2, hz, slotV, nmH0]) rfl ?_
      refine ⟨?_, ?_⟩
      · rw [HN.out.1, HN.out.2]; rfl
      · exact ((((HB3.out.setCell (by simp) _).setCell (by simp) _).setCell (by simp) _).alloc (by simp; omega) _).alloc (by simp; omega) _

set_option maxRecDepth 20000 in
set_option maxHeartbeats 1600000 in
theorem On_any (d : Dk) (X : Nat → Prop) (gd : Nat) (w : World) (hd : PDskIn w X gd d) (hr : D.Rising d.fs) (hu : D.used d.fs ≤ 1099511627776) (hT : Hid (Tab w)) :
    Calls Tryz.prog 20 #[.pointer (some ⟨gd, 0, none⟩)] w fun e w' => e = .returned (.agg #[.int .i64 (newest d.fs).2.2.1, .int .i64 (newest d.fs).2.2.2]) ∧ Below w.heap.size w w' := by
  obtain ⟨W, hW⟩ : ∃ W, W = w.alloc (.cells #[.int .i64 0, .int .i64 0] 33) := ⟨_, rfl⟩
  have HB1 : Hid (Below w.heap.size w W) := Lib.hid (by rw [hW]; exact below_alloc _ _)
  have hbox : W.heap[w.heap.size]? = some (.cells #[.int .i64 0, .int .i64 0] 33) := by rw [hW]; exact heap_new _ _ _ rfl
  have HBOX := Lib.hid hbox
  have HD := Lib.hid hd
  have HR := Lib.hid hr
  have HU := Lib.hid hu
  have HW := Lib.hid hW
  clear hW hbox hd hr hu
  go_enter Tryz.func20, Tryz.ntmps20
  go_wp2_with fail
  rw [← HW.out]
  refine (slots_any d X gd W (HD.out.next HB1.out) HR.out HU.out (Lib.hid (hT.out.next HB1.out))).mono ?_
  rintro e w1 ⟨rfl, hb1⟩
  have HB2 : Hid (Below w.heap.size w w1) := Lib.hid (HB1.out.trans (hb1.mono HB1.out.size))
  have hbox1 := old_below HBOX.out hb1
  obtain ⟨n, hn⟩ : ∃ n, n = newest d.fs := ⟨_, rfl⟩
  rw [← hn]
  have HN := Lib.hid hn
  obtain ⟨na, nc, nt, nv⟩ := n
  simp only [slotV]
  obtain ⟨c0, c1, f0, f1, hz⟩ := block2 hbox1
  clear hb1 hbox1 hn
  go_wp2_with fail
  refine bodyPost_ret (v := .agg #[.int .i64 nt, .int .i64 nv]) (by simp [results, Tryz.results20, go_sem, c0, c1, hz]) rfl ?_
  rw [← HN.out]
  refine ⟨rfl, ?_⟩
  have hzz := HB2.out.size
  exact ((HB2.out.setCell (by simp) _).setCell (by simp) _).alloc (by simp; omega) _

set_option maxRecDepth 20000 in
set_option maxHeartbeats 1600000 in
theorem Open_any (d : Dk) (X : Nat → Prop) (gd : Nat) (w : World) (hd : PDskIn w X gd d) (hr : D.Rising d.fs) (hu : D.used d.fs ≤ 1099511627776) (hT : Hid (Tab w)) :
    Calls Tryz.prog 8 #[.pointer (some ⟨gd, 0, none⟩)] w fun e w' => ∃ g, e = .returned (.tuple #[.pointer (some ⟨g, 0, none⟩), .int .i64 0]) ∧ Below w.heap.size w w' ∧ w.heap.size ≤ g ∧
      w'.heap[g]? = some (.cells #[.int .i64 (newest d.fs).2.2.1, .int .i64 (newest d.fs).2.2.2, .pointer (some ⟨gd, 0, none⟩)] 53) := by
  have HD := Lib.hid hd
  have HR := Lib.hid hr
  have HU := Lib.hid hu
  clear hd hr hu
  go_enter Tryz.func8, Tryz.ntmps8
  go_wp2_with fail
  refine (On_any d X gd w HD.out HR.out HU.out hT).mono ?_
  rintro e w1 ⟨rfl, hb1⟩
  have HB1 := Lib.hid hb1
  clear hb1
  go_wp2_with fail
  go_ret2
  exact ⟨_, rfl, HB1.out.trans ((below_alloc _ _).mono HB1.out.size), HB1.out.size, heap_new _ _ _ rfl⟩
end Go.Proofs.YtgakcaobalfpjaaGreatDoor.M

/- Part: Hard5. -/
namespace Go.Proofs.YtgakcaobalfpjaaGreatDoor.M
open Go.RowKit

/-- Bytes behind the first four. -/
theorem RepB.behind4 {w : World} {F : Nat → Prop} {L : List UInt8} {b off c : Nat} (hF : F b) (hc : ∀ (j : Nat) (hj : j < L.length), w.cell? ⟨b, off + j, none⟩ = some (.int .u8 (L[j].toNat : Int))) (h4 : 4 ≤ L.length) (hl : L.length ≤ c) (hm : c ≤ 9223372036854775807) :
    (c = 4 ∧ RepB w F (L.drop 4) (.slice (some ⟨b, off, none⟩) (L.length - 4) 0)) ∨ (¬ c = 4 ∧ RepB w F (L.drop 4) (.slice (some ⟨b, off + 4, none⟩) (L.length - 4) (c - 4))) := by
  by_cases h : c = 4
  · refine .inl ⟨h, .inl ⟨List.drop_of_length_le (by omega), _, 0, by rw [show L.length - 4 = 0 by omega], by omega, fun h => by cases h⟩⟩
  · refine .inr ⟨h, .inr ⟨b, off + 4, c - 4, by rw [List.length_drop], hF, by rw [List.length_drop]; omega, by omega, fun i hi => ?_⟩⟩
    have := hc (4 + i) (by rw [List.length_drop] at hi; omega)
    rw [show off + 4 + i = off + (4 + i) by omega, this]
    simp

set_option maxRecDepth 20000 in
set_option maxHeartbeats 6400000 in
theorem RefSlot_any (L : List UInt8) (F : Nat → Prop) (v : Value) (w : World) (hv : RepB w F L v) (hF : ∀ b, F b → b < w.heap.size) (hL : L.length ≤ 1099511627776) :
    Calls Tryz.prog 40 #[v] w fun e w' => e = .returned (.tuple #[.int .u64 ((slot L).1 : Int), .agg #[.int .i64 (slot L).2.1, .int .i64 (slot L).2.2]]) ∧ Below w.heap.size w w' := by
  obtain ⟨W, hW⟩ : ∃ W, W = w.alloc (.cells #[.int .i64 0, .int .i64 0] 33) := ⟨_, rfl⟩
  have HB : Hid (Below w.heap.size w W) := Lib.hid (by rw [hW]; exact below_alloc _ _)
  have hx0 : W.heap[w.heap.size]? = some (.cells #[.int .i64 0, .int .i64 0] 33) := by rw [hW]; exact heap_new _ _ _ rfl
  have HX0 := Lib.hid hx0
  have HW := Lib.hid hW
  have HV := Lib.hid (hv.same (w' := W) (G := fun b => b < w.heap.size) hF fun b hb => HB.out.block b (hF b hb))
  obtain ⟨c0, c1, f0, f1, cz⟩ := block2 hx0
  clear hW hx0 hF
  by_cases h4 : L.length < 4
  · obtain ⟨va, vc, rfl, -⟩ := hv.slice
    have h4i : (L.length : Int) < 4 := by omega
    have HS : Hid (slot L = (0, (0, 0))) := Lib.hid (by unfold slot; rw [if_pos h4])
    clear h4 hv
    go_enter Tryz.func40, Tryz.ntmps40
    go_wp2_with fail
    rw [← HW.out]
    refine bodyPost_ret (v := .tuple #[.int .u64 0, .agg #[.int .i64 0, .int .i64 0]]) (by simp [results, Tryz.results40, go_sem, c0, c1, cz]) rfl ?_
    rw [HS.out]
    exact ⟨rfl, by first | exact HB.out | exact (HB.out.setCell (by simp) _).setCell (by simp) _⟩
  · have h4i : decide ((L.length : Int) < 4) = false := by simp; omega
    have h4b : (4 : Int) ≤ (L.length : Int) := by omega
    rcases HV.out with ⟨h, -⟩ | ⟨vb, vo, vc, rfl, hFb, hlc, hcm, hcell⟩
    · rw [h] at h4; simp at h4
    have e0 := hcell 0 (by omega)
    have e1 := hcell 1 (by omega)
    have e2 := hcell 2 (by omega)
    have e3 := hcell 3 (by omega)
    rw [Nat.add_zero] at e0
    have hbz : vb < W.heap.size := Nat.lt_of_lt_of_le hFb HB.out.size
    have HCT : Hid (∀ q : Nat, q = vc → Calls Tryz.prog 90 #[.string ⟨#[91, 110, 110, 110, 93]⟩, .slice (some ⟨vb, vo, none⟩) L.length q, .int .i64 4] W (Take3Post L 4 W)) := Lib.hid fun q hq => by
      subst hq
      have h := TakeRow_any L _ _ 4 W HV.out (fun b hb => Nat.lt_of_lt_of_le hb HB.out.size) hL (by omega)
      rw [show ((4 : Nat) : Int) = 4 from rfl] at h
      exact h
    rcases RepB.behind4 (F := fun b => b < w.heap.size) hFb hcell (by omega) hlc hcm with ⟨hc4, hd⟩ | ⟨hc4, hd⟩
    all_goals
      have HD := Lib.hid hd
      clear hd hv hcell
      go_enter Tryz.func40, Tryz.ntmps40
      go_wp2_with fail
      rw [← HW.out]
      refine (RefOf_any (L.drop 4) _ _ W HD.out).mono ?_
      rintro e w1 ⟨rfl, rfl⟩
      have hcs : C.sumOf (L.drop 4) < 4294967296 := C.sumOf_lt _
      obtain ⟨cs, hcs2⟩ : ∃ cs, cs = C.sumOf (L.drop 4) := ⟨_, rfl⟩
      rw [← hcs2] at hcs ⊢
      have HCS := Lib.hid hcs2
      have HFT := Lib.hid (four_test hcs (show 4 ≤ L.length by omega))
      have e0' := e0
      have e1' := e1
      have e2' := e2
      have e3' := e3
      obtain ⟨a0, ha0⟩ : ∃ a0, a0 = (L[0].toNat : Int) := ⟨_, rfl⟩
      obtain ⟨a1, ha1⟩ : ∃ a1, a1 = (L[1].toNat : Int) := ⟨_, rfl⟩
      obtain ⟨a2, ha2⟩ : ∃ a2, a2 = (L[2].toNat : Int) := ⟨_, rfl⟩
      obtain ⟨a3, ha3⟩ : ∃ a3, a3 = (L[3].toNat : Int) := ⟨_, rfl⟩
      rw [← ha0] at e0'
      rw [← ha1] at e1'
      rw [← ha2] at e2'
      rw [← ha3] at e3'
      have HA : Hid (a0 = (L[0].toNat : Int) ∧ a1 = (L[1].toNat : Int) ∧ a2 = (L[2].toNat : Int) ∧ a3 = (L[3].toNat : Int)) := Lib.hid ⟨ha0, ha1, ha2, ha3⟩
      have HNO : Hid ((¬ (a0 = (cs : Int) / 16777216 ∧ a1 = (cs : Int) / 65536 % 256 ∧ a2 = (cs : Int) / 256 % 256 ∧ a3 = (cs : Int) % 256)) → slot L = (0, (0, 0))) := Lib.hid fun h => by
        unfold slot
        rw [if_neg h4, if_pos]
        intro h2
        rw [← HCS.out] at h2
        have h3 := HFT.out
        rw [decide_eq_true h2] at h3
        simp only [Bool.and_eq_true, beq_iff_eq] at h3
        apply h
        rw [HA.out.1, HA.out.2.1, HA.out.2.2.1, HA.out.2.2.2]
        exact ⟨h3.1.symm, h3.2.1.symm, h3.2.2.1.symm, h3.2.2.2.symm⟩
      have HYES : Hid ((a0 = (cs : Int) / 16777216 ∧ a1 = (cs : Int) / 65536 % 256 ∧ a2 = (cs : Int) / 256 % 256 ∧ a3 = (cs : Int) % 256) → slot L = match three (L.drop 4) with
          | .ok ((x, y, z), []) => if x < top ∧ y < top ∧ z ≤ top then (x, ((y : Int), (z : Int) - 1)) else (0, (0, 0))
          | _ => (0, (0, 0))) := Lib.hid fun h => by
        have h3 := HFT.out
        rw [← HA.out.1, ← HA.out.2.1, ← HA.out.2.2.1, ← HA.out.2.2.2, h.1, h.2.1, h.2.2.1, h.2.2.2] at h3
        simp only [beq_self_eq_true, Bool.and_self] at h3
        have h5 := of_decide_eq_true h3.symm
        rw [HCS.out] at h5
        unfold slot
        rw [if_neg h4, if_neg (fun h => h h5)]
        rcases three (L.drop 4) with e | ⟨⟨x, y, z⟩, _ | ⟨a, r⟩⟩ <;> rfl
      clear hcs2 ha0 ha1 ha2 ha3 e0 e1 e2 e3
      rcases (show a0 ≠ (cs : Int) / 16777216 ∨ (a0 = (cs : Int) / 16777216 ∧ (a1 ≠ (cs : Int) / 65536 % 256 ∨ (a1 = (cs : Int) / 65536 % 256 ∧ (a2 ≠ (cs : Int) / 256 % 256 ∨ (a2 = (cs : Int) / 256 % 256 ∧ (a3 ≠ (cs : Int) % 256 ∨ a3 = (cs : Int) % 256)))))) by omega) with m0 | ⟨m0, m1 | ⟨m1, m2 | ⟨m2, m3 | m3⟩⟩⟩
      · have HS := Lib.hid (HNO.out fun h => m0 h.1)
        have q0 : (a0 != (cs : Int) / 16777216) = true := by simpa using m0
        clear HNO HYES m0
        go_wp2_with fail
        refine bodyPost_ret (v := .tuple #[.int .u64 0, .agg #[.int .i64 0, .int .i64 0]]) (by simp [results, Tryz.results40, go_sem, c0, c1, cz]) rfl ?_
        rw [HS.out]
        exact ⟨rfl, (HB.out.setCell (by simp) _).setCell (by simp) _⟩
      · have HS := Lib.hid (HNO.out fun h => m1 h.2.1)
        have q0 : (a0 != (cs : Int) / 16777216) = false := by simpa using m0
        have q1 : (a1 != (cs : Int) / 65536 % 256) = true := by simpa using m1
        clear HNO HYES m0 m1
        go_wp2_with fail
        refine bodyPost_ret (v := .tuple #[.int .u64 0, .agg #[.int .i64 0, .int .i64 0]]) (by simp [results, Tryz.results40, go_sem, c0, c1, cz]) rfl ?_
        rw [HS.out]
        exact ⟨rfl, (HB.out.setCell (by simp) _).setCell (by simp) _⟩
      · have HS := Lib.hid (HNO.out fun h => m2 h.2.2.1)
        have q0 : (a0 != (cs : Int) / 16777216) = false := by simpa using m0
        have q1 : (a1 != (cs : Int) / 65536 % 256) = false := by simpa using m1
        have q2 : (a2 != (cs : Int) / 256 % 256) = true := by simpa using m2
        clear HNO HYES m0 m1 m2
        go_wp2_with fail
        refine bodyPost_ret (v := .tuple #[.int .u64 0, .agg #[.int .i64 0, .int .i64 0]]) (by simp [results, Tryz.results40, go_sem, c0, c1, cz]) rfl ?_
        rw [HS.out]
        exact ⟨rfl, (HB.out.setCell (by simp) _).setCell (by simp) _⟩
      · have HS := Lib.hid (HNO.out fun h => m3 h.2.2.2)
        have q0 : (a0 != (cs : Int) / 16777216) = false := by simpa using m0
        have q1 : (a1 != (cs : Int) / 65536 % 256) = false := by simpa using m1
        have q2 : (a2 != (cs : Int) / 256 % 256) = false := by simpa using m2
        have q3 : (a3 != (cs : Int) % 256) = true := by simpa using m3
        clear HNO HYES m0 m1 m2 m3
        go_wp2_with fail
        refine bodyPost_ret (v := .tuple #[.int .u64 0, .agg #[.int .i64 0, .int .i64 0]]) (by simp [results, Tryz.results40, go_sem, c0, c1, cz]) rfl ?_
        rw [HS.out]
        exact ⟨rfl, (HB.out.setCell (by simp) _).setCell (by simp) _⟩
      · have HS1 := Lib.hid (HYES.out ⟨m0, m1, m2, m3⟩)
        have q0 : (a0 != (cs : Int) / 16777216) = false := by simpa using m0
        have q1 : (a1 != (cs : Int) / 65536 % 256) = false := by simpa using m1
        have q2 : (a2 != (cs : Int) / 256 % 256) = false := by simpa using m2
        have q3 : (a3 != (cs : Int) % 256) = false := by simpa using m3
        clear HNO HYES m0 m1 m2 m3
        go_wp2_with fail
        refine (HCT.out _ ?hq).mono ?hk
        case hq => first | rfl | exact hc4.symm
        case hk =>
          intro e w2 hp
          obtain ⟨hb2, hm⟩ := hp
          have HB2 : Hid (Below w.heap.size w w2) := Lib.hid (HB.out.trans (hb2.mono HB.out.size))
          have HX2 := Lib.hid (old_below HX0.out hb2)
          clear hb2
          cases h3 : three (L.drop 4) with
          | error c =>
            rw [h3] at hm
            obtain ⟨z, rfl⟩ := hm
            have HS : Hid (slot L = (0, (0, 0))) := Lib.hid (by rw [HS1.out, h3])
            have qc : (c != 0) = true := by rcases three_err h3 with rfl | rfl <;> rfl
            obtain ⟨c0, c1, f0, f1, cz⟩ := block2 HX2.out
            clear h3
            go_wp2_with fail
            refine bodyPost_ret (v := .tuple #[.int .u64 0, .agg #[.int .i64 0, .int .i64 0]]) (by simp [results, Tryz.results40, go_sem, c0, c1, cz]) rfl ?_
            rw [HS.out]
            refine ⟨rfl, ?_⟩
            first
              | exact ((HB2.out.alloc HB2.out.size _).setCell (by simp) _).setCell (by simp) _
              | exact ((HB2.out.setCell (by simp) _).setCell (by simp) _).alloc (by simpa using HB2.out.size) _
          | ok p =>
            obtain ⟨⟨x, y, z⟩, r⟩ := p
            rw [h3] at hm
            obtain ⟨g, gc, rfl, hgz, g0, g1, g2⟩ := hm
            obtain ⟨c0, c1, f0, f1, cz⟩ := block2 HX2.out
            cases r with
            | cons a r =>
              have HS : Hid (slot L = (0, (0, 0))) := Lib.hid (by rw [HS1.out, h3])
              obtain ⟨m, hm⟩ : ∃ m, m = L.length - (a :: r).length := ⟨_, rfl⟩
              have hml : (m : Int) < (L.length : Int) := by
                rw [hm, List.length_cons]; omega
              rw [← hm]
              clear h3 hm
              go_wp2_with fail
              refine bodyPost_ret (v := .tuple #[.int .u64 0, .agg #[.int .i64 0, .int .i64 0]]) (by simp [results, Tryz.results40, go_sem, c0, c1, cz]) rfl ?_
              rw [HS.out]
              refine ⟨rfl, ?_⟩
              first
                | exact ((HB2.out.alloc HB2.out.size _).setCell (by simp) _).setCell (by simp) _
                | exact ((HB2.out.setCell (by simp) _).setCell (by simp) _).alloc (by simpa using HB2.out.size) _
            | nil =>
              have HSL : Hid (slot L = if x < top ∧ y < top ∧ z ≤ top then (x, ((y : Int), (z : Int) - 1)) else (0, (0, 0))) := Lib.hid (by rw [HS1.out, h3])
              have hml : decide ((L.length : Int) < (L.length : Int)) = false := by simp
              simp only [List.length_nil, Nat.sub_zero]
              clear h3
              rcases (show ((4611686018427387904 : Int) ≤ (x : Int) ∨ (¬ (4611686018427387904 : Int) ≤ (x : Int) ∧ ((4611686018427387904 : Int) ≤ (y : Int) ∨ (¬ (4611686018427387904 : Int) ≤ (y : Int) ∧ ((4611686018427387904 : Int) < (z : Int) ∨ ¬ (4611686018427387904 : Int) < (z : Int)))))) by omega) with k2 | ⟨k2, k3 | ⟨k3, k4 | k4⟩⟩
              · have HS : Hid (slot L = (0, (0, 0))) := Lib.hid (by rw [HSL.out, if_neg (by unfold top; omega)])
                go_wp2_with fail
                refine bodyPost_ret (v := .tuple #[.int .u64 0, .agg #[.int .i64 0, .int .i64 0]]) (by simp [results, Tryz.results40, go_sem, c0, c1, cz]) rfl ?_
                rw [HS.out]
                refine ⟨rfl, ?_⟩
                exact ((HB2.out.setCell (by simp) _).setCell (by simp) _).alloc (by simpa using HB2.out.size) _
              · have HS : Hid (slot L = (0, (0, 0))) := Lib.hid (by rw [HSL.out, if_neg (by unfold top; omega)])
                have t2 : decide ((4611686018427387904 : Int) ≤ (x : Int)) = false := by simp; omega
                clear k2
                go_wp2_with fail
                refine bodyPost_ret (v := .tuple #[.int .u64 0, .agg #[.int .i64 0, .int .i64 0]]) (by simp [results, Tryz.results40, go_sem, c0, c1, cz]) rfl ?_
                rw [HS.out]
                refine ⟨rfl, ?_⟩
                exact ((HB2.out.setCell (by simp) _).setCell (by simp) _).alloc (by simpa using HB2.out.size) _
              · have HS : Hid (slot L = (0, (0, 0))) := Lib.hid (by rw [HSL.out, if_neg (by unfold top; omega)])
                have t2 : decide ((4611686018427387904 : Int) ≤ (x : Int)) = false := by simp; omega
                have t3 : decide ((4611686018427387904 : Int) ≤ (y : Int)) = false := by simp; omega
                clear k2 k3
                go_wp2_with fail
                refine bodyPost_ret (v := .tuple #[.int .u64 0, .agg #[.int .i64 0, .int .i64 0]]) (by simp [results, Tryz.results40, go_sem, c0, c1, cz]) rfl ?_
                rw [HS.out]
                refine ⟨rfl, ?_⟩
                exact ((HB2.out.setCell (by simp) _).setCell (by simp) _).alloc (by simpa using HB2.out.size) _
              · have HS : Hid (slot L = (x, ((y : Int), (z : Int) - 1))) := Lib.hid (by rw [HSL.out, if_pos (by unfold top; omega)])
                have t2 : decide ((4611686018427387904 : Int) ≤ (x : Int)) = false := by simp; omega
                have t3 : decide ((4611686018427387904 : Int) ≤ (y : Int)) = false := by simp; omega
                have t4 : decide ((4611686018427387904 : Int) < (z : Int)) = false := by simp; omega
                have t5 : (x : Int) < 4611686018427387904 := by omega
                have t6 : (y : Int) < 4611686018427387904 := by omega
                have t7 : (z : Int) ≤ 4611686018427387904 := by omega
                clear k2 k3 k4
                go_wp2_with fail
                obtain ⟨wr, hwr⟩ : ∃ wr, wr = w2.alloc (.cells #[.int .u64 0, .slice none 0 0, .slice (some ⟨g, 0, none⟩) 3 gc] 149) := ⟨_, rfl⟩
                have hb4 : Below w2.heap.size w2 wr := by rw [hwr]; exact below_alloc _ _
                have hbx : wr.heap[w2.heap.size]? = some (.cells #[.int .u64 0, .slice none 0 0, .slice (some ⟨g, 0, none⟩) 3 gc] 149) := by rw [hwr]; exact heap_new _ _ _ rfl
                rw [← hwr]
                obtain ⟨-, -, bx2, -, -, -, bxz⟩ := block3 hbx
                have hw2 : w.heap.size < w2.heap.size := cz
                have hg2 : g ≠ w.heap.size := by
                  rintro rfl
                  rw [g0] at c0
                  cases c0
                have oc : ∀ (w' : World) (q j : Nat) (u : Value), Only (fun k => k = w.heap.size) wr w' → q < wr.heap.size → q ≠ w.heap.size → wr.cell? ⟨q, j, none⟩ = some u → w'.cell? ⟨q, j, none⟩ = some u := fun w' q j u ho hq hn hu => (World.cell?_of_block (a := ⟨q, j, none⟩) (ho.block q hq hn)).trans hu
                have hg4 := Nat.lt_of_lt_of_le hgz hb4.size
                have p2 : ∀ w', Only (fun k => k = w.heap.size) wr w' → w'.cell? ⟨w2.heap.size, 2, none⟩ = some (.slice (some ⟨g, 0, none⟩) 3 gc) := fun w' ho => oc w' _ _ _ ho bxz (by omega) bx2
                have r0 : ∀ w', Only (fun k => k = w.heap.size) wr w' → w'.cell? ⟨g, 0, none⟩ = some (.int .u64 (x : Int)) := fun w' ho => oc w' _ _ _ ho hg4 hg2 ((hb4.cell (p := ⟨g, 0, none⟩) hgz).trans g0)
                have r1 : ∀ w', Only (fun k => k = w.heap.size) wr w' → w'.cell? ⟨g, 3, none⟩ = some (.int .u64 (y : Int)) := fun w' ho => oc w' _ _ _ ho hg4 hg2 ((hb4.cell (p := ⟨g, 3, none⟩) hgz).trans g1)
                have r2 : ∀ w', Only (fun k => k = w.heap.size) wr w' → w'.cell? ⟨g, 6, none⟩ = some (.int .u64 (z : Int)) := fun w' ho => oc w' _ _ _ ho hg4 hg2 ((hb4.cell (p := ⟨g, 6, none⟩) hgz).trans g2)
                have HBR : Hid (Below w.heap.size w wr) := Lib.hid (HB2.out.trans (hb4.mono HB2.out.size))
                have HXR := Lib.hid (old_below HX2.out hb4)
                have hwy : IntKind.i64.wrap (y : Int) = (y : Int) := IntWalk.i64_in _ (by omega)
                have hwz : IntKind.i64.wrap (z : Int) = (z : Int) := IntWalk.i64_in _ (by omega)
                have hwz1 : IntKind.i64.wrap ((z : Int) - 1) = (z : Int) - 1 := IntWalk.i64_in _ (by omega)
                have hS : Only (fun k => k = w.heap.size) wr wr.drew := Only.of_below (Below.refl _ _).drew
                clear oc hwr hb4 hbx bx2 g0 g1 g2 c0 c1 f0 f1 cz hg4
                obtain ⟨c0, c1, f0, f1, cz⟩ := block2 HXR.out
                refine wp_region_held (S := fun w' => Only (fun k => k = w.heap.size) wr w') (by kernel_rfl) ?_
                refine H_take (i := 0) (v := ?_) rfl (by as_aux_lemma => kernel_rfl) (by as_aux_lemma => kernel_rfl) (by as_aux_lemma => kernel_rfl) (fun _ _ _ h => h) (by rfl) hS ?_ ?_
                rotate_left
                · intro w' hw'; go_simp; with_reducible rfl
                go_simp
                refine H_take (i := 1) (v := ?_) rfl (by as_aux_lemma => kernel_rfl) (by as_aux_lemma => kernel_rfl) (by as_aux_lemma => kernel_rfl) (fun _ _ _ h => h) (by rfl) hS ?_ ?_
                rotate_left
                · intro w' hw'; go_simp; with_reducible rfl
                go_simp
                refine H_take (i := 2) (v := ?_) rfl (by as_aux_lemma => kernel_rfl) (by as_aux_lemma => kernel_rfl) (by as_aux_lemma => kernel_rfl) (fun _ _ _ h => h) (by rfl) hS ?_ ?_
                rotate_left
                · intro w' hw'; go_simp; with_reducible rfl
                go_simp
                refine H_take (i := 3) (v := ?_) rfl (by as_aux_lemma => kernel_rfl) (by as_aux_lemma => kernel_rfl) (by as_aux_lemma => kernel_rfl) (fun _ _ _ h => h) (by rfl) hS ?_ ?_
                rotate_left
                · intro w' hw'; go_simp; with_reducible rfl
                go_simp
                refine H_take (i := 4) (v := ?_) rfl (by as_aux_lemma => kernel_rfl) (by as_aux_lemma => kernel_rfl) (by as_aux_lemma => kernel_rfl) (fun _ _ _ h => h) (by rfl) hS ?_ ?_
                rotate_left
                · intro w' hw'; go_simp; with_reducible rfl
                go_simp
                refine H_take (i := 5) (v := ?_) rfl (by as_aux_lemma => kernel_rfl) (by as_aux_lemma => kernel_rfl) (by as_aux_lemma => kernel_rfl) (fun _ _ _ h => h) (by rfl) hS ?_ ?_
                rotate_left
                · intro w' hw'; go_simp; with_reducible rfl
                go_simp
                refine H_take (i := 6) (v := ?_) rfl (by as_aux_lemma => kernel_rfl) (by as_aux_lemma => kernel_rfl) (by as_aux_lemma => kernel_rfl) (fun _ _ _ h => h) (by rfl) hS ?_ ?_
                rotate_left
                · intro w' hw'; go_simp; with_reducible rfl
                go_simp
                refine H_take (i := 7) (v := ?_) rfl (by as_aux_lemma => kernel_rfl) (by as_aux_lemma => kernel_rfl) (by as_aux_lemma => kernel_rfl) (fun _ _ _ h => h) (by rfl) hS ?_ ?_
                rotate_left
                · intro w' hw'; go_simp; with_reducible rfl
                go_simp
                refine H_take (i := 8) (v := ?_) rfl (by as_aux_lemma => kernel_rfl) (by as_aux_lemma => kernel_rfl) (by as_aux_lemma => kernel_rfl) (fun _ _ _ h => h) (by rfl) hS ?_ ?_
                rotate_left
                · intro w' hw'; go_simp; with_reducible rfl
                go_simp
                refine H_take (i := 9) (v := ?_) rfl (by as_aux_lemma => kernel_rfl) (by as_aux_lemma => kernel_rfl) (by as_aux_lemma => kernel_rfl) (fun _ _ _ h => h) (by rfl) hS ?_ ?_
                rotate_left
                · intro w' hw'; go_simp; with_reducible rfl
                go_simp
                refine H_take (i := 10) (v := ?_) rfl (by as_aux_lemma => kernel_rfl) (by as_aux_lemma => kernel_rfl) (by as_aux_lemma => kernel_rfl) (fun _ _ _ h => h) (by rfl) hS ?_ ?_
                rotate_left
                · intro w' hw'; go_simp; with_reducible rfl
                go_simp
                refine H_take (i := 11) (v := ?_) rfl (by as_aux_lemma => kernel_rfl) (by as_aux_lemma => kernel_rfl) (by as_aux_lemma => kernel_rfl) (fun _ _ _ h => h) (by rfl) hS ?_ ?_
                rotate_left
                · intro w' hw'; go_simp; with_reducible rfl
                go_simp
                refine H_take (i := 12) (v := ?_) rfl (by as_aux_lemma => kernel_rfl) (by as_aux_lemma => kernel_rfl) (by as_aux_lemma => kernel_rfl) (fun _ _ _ h => h) (by rfl) hS ?_ ?_
                rotate_left
                · intro w' hw'; go_simp; with_reducible rfl
                go_simp
                refine H_take (i := 13) (v := ?_) rfl (by as_aux_lemma => kernel_rfl) (by as_aux_lemma => kernel_rfl) (by as_aux_lemma => kernel_rfl) (fun _ _ _ h => h) (by rfl) hS ?_ ?_
                rotate_left
                · intro w' hw'; go_simp; with_reducible rfl
                go_simp
                refine H_take (i := 14) (v := ?_) rfl (by as_aux_lemma => kernel_rfl) (by as_aux_lemma => kernel_rfl) (by as_aux_lemma => kernel_rfl) (fun _ _ _ h => h) (by rfl) hS ?_ ?_
                rotate_left
                · intro w' hw'; go_simp; with_reducible rfl
                go_simp
                refine H_take (i := 15) (v := ?_) rfl (by as_aux_lemma => kernel_rfl) (by as_aux_lemma => kernel_rfl) (by as_aux_lemma => kernel_rfl) (fun _ _ _ h => h) (by rfl) hS ?_ ?_
                rotate_left
                · intro w' hw'; go_simp; with_reducible rfl
                go_simp
                refine H_take (i := 16) (v := ?_) rfl (by as_aux_lemma => kernel_rfl) (by as_aux_lemma => kernel_rfl) (by as_aux_lemma => kernel_rfl) (fun _ _ _ h => h) (by rfl) hS ?_ ?_
                rotate_left
                · intro w' hw'; go_simp; with_reducible rfl
                go_simp
                refine H_take (i := 17) (v := ?_) rfl (by as_aux_lemma => kernel_rfl) (by as_aux_lemma => kernel_rfl) (by as_aux_lemma => kernel_rfl) (fun _ _ _ h => h) (by rfl) hS ?_ ?_
                rotate_left
                · intro w' hw'; go_simp; with_reducible rfl
                go_simp
                refine H_take (i := 18) (v := ?_) rfl (by as_aux_lemma => kernel_rfl) (by as_aux_lemma => kernel_rfl) (by as_aux_lemma => kernel_rfl) (fun _ _ _ h => h) (by rfl) hS ?_ ?_
                rotate_left
                · intro w' hw'; go_simp; with_reducible rfl
                go_simp
                refine H_take (i := 19) (v := ?_) rfl (by as_aux_lemma => kernel_rfl) (by as_aux_lemma => kernel_rfl) (by as_aux_lemma => kernel_rfl) (fun _ _ _ h => h) (by rfl) hS ?_ ?_
                rotate_left
                · intro w' hw'; go_simp; with_reducible rfl
                go_simp
                refine H_one (i := 20) (by as_aux_lemma => kernel_rfl) rfl (by rfl) ?_
                go_simp
                have hS2 : Only (fun k => k = w.heap.size) wr ((wr.setCell ⟨w.heap.size, 0, none⟩ (.int .i64 (y : Int))).setCell ⟨w.heap.size, 1, none⟩ (.int .i64 ((z : Int) - 1))).drew := by
                  have h := ((Only.refl (fun k => k = w.heap.size) wr).set (g := w.heap.size) (j := 0) (.inl rfl) (.int .i64 (y : Int))).set (g := w.heap.size) (j := 1) (.inl rfl) (.int .i64 ((z : Int) - 1))
                  exact ⟨h.os, h.tape, h.output, h.size, h.block⟩
                refine ⟨hS2, ?_⟩
                refine wpAnyH_done (by as_aux_lemma => kernel_rfl) ?_ _
                clear p2 r0 r1 r2 hS hS2
                go_wp2_with fail
                refine bodyPost_ret (v := .tuple #[.int .u64 (x : Int), .agg #[.int .i64 (y : Int), .int .i64 ((z : Int) - 1)]]) (by simp [results, Tryz.results40, go_sem, c0, c1, cz]) rfl ?_
                rw [HS.out]
                exact ⟨rfl, ((HBR.out.setCell (by simp) _).setCell (by simp) _).drew⟩
end Go.Proofs.YtgakcaobalfpjaaGreatDoor.M

/- Part: Hard1. -/
namespace Go.Proofs.YtgakcaobalfpjaaGreatDoor.M
open Go.RowKit
open D (Fl Dk)

/-- A state as a value. -/
def stV (s : Int × Int) : Value := .agg #[.int .i64 s.1, .int .i64 s.2]

set_option maxRecDepth 20000 in
set_option maxHeartbeats 1600000 in
theorem RefFollows_any (s e : Int × Int) (w : World) :
    Calls Tryz.prog 33 #[stV s, stV e] w fun r w' => r = .returned (.bool (follows s e)) ∧ Below w.heap.size w w' := by
  obtain ⟨st, sv⟩ := s
  obtain ⟨et, ev⟩ := e
  simp only [stV]
  obtain ⟨W, hW⟩ : ∃ W, W = (w.alloc (.cells #[.int .i64 st, .int .i64 sv] 33)).alloc (.cells #[.int .i64 et, .int .i64 ev] 33) := ⟨_, rfl⟩
  have HB : Hid (Below w.heap.size w W) := Lib.hid (by rw [hW]; exact ((Below.refl _ w).alloc (Nat.le_refl _) _).alloc (by simp) _)
  have HR : ∀ r : Bool, follows (st, sv) (et, ev) = r → (Ending.returned (.bool r) = .returned (.bool (follows (st, sv) (et, ev))) ∧ Below w.heap.size w W) := fun r h => ⟨by rw [h], HB.out⟩
  rcases (show st < 0 ∨ (¬ st < 0 ∧ (sv < -1 ∨ (¬ sv < -1 ∧ (et < st ∨ (¬ et < st ∧ (st ≠ et ∨ (st = et ∧ (sv = ev ∨ (sv ≠ ev ∧ (ev = -1 ∨ ev ≠ -1)))))))))) by omega) with h | ⟨h, h | ⟨h2, h | ⟨h3, h | ⟨h4, h | ⟨h5, h | h⟩⟩⟩⟩⟩
  · have hf : follows (st, sv) (et, ev) = false := by unfold follows; simp; omega
    have HF := Lib.hid (HR _ hf)
    clear HR hf
    go_enter Tryz.func33, Tryz.ntmps33
    go_wp2_with fail
    go_ret
    rw [← hW]
    exact HF.out
  · have hf : follows (st, sv) (et, ev) = false := by unfold follows; simp; omega
    have HF := Lib.hid (HR _ hf)
    have q1 : decide (st < 0) = false := by simp; omega
    clear HR hf
    go_enter Tryz.func33, Tryz.ntmps33
    go_wp2_with fail
    go_ret
    rw [← hW]
    exact HF.out
  · have hf : follows (st, sv) (et, ev) = true := by unfold follows; simp; omega
    have HF := Lib.hid (HR _ hf)
    have q1 : decide (st < 0) = false := by simp; omega
    have q2 : decide (sv < -1) = false := by simp; omega
    clear HR hf
    go_enter Tryz.func33, Tryz.ntmps33
    go_wp2_with fail
    go_ret
    rw [← hW]
    exact HF.out
  · have hf : follows (st, sv) (et, ev) = false := by unfold follows; simp; omega
    have HF := Lib.hid (HR _ hf)
    have q1 : decide (st < 0) = false := by simp; omega
    have q2 : decide (sv < -1) = false := by simp; omega
    have q3 : decide (et < st) = false := by simp; omega
    have q4 : (st == et) = false := beq_eq_false_iff_ne.2 h
    clear HR hf
    go_enter Tryz.func33, Tryz.ntmps33
    go_wp2_with fail
    go_ret
    rw [← hW]
    exact HF.out
  · have hf : follows (st, sv) (et, ev) = true := by unfold follows; simp; omega
    have HF := Lib.hid (HR _ hf)
    have q1 : decide (st < 0) = false := by simp; omega
    have q2 : decide (sv < -1) = false := by simp; omega
    have q3 : decide (et < st) = false := by simp; omega
    have q4 : (st == et) = true := by simp [h4]
    have q5 : (sv == ev) = true := by simp [h]
    clear HR hf h4 h
    go_enter Tryz.func33, Tryz.ntmps33
    go_wp2_with fail
    go_ret
    rw [← hW]
    exact HF.out
  · have hf : follows (st, sv) (et, ev) = true := by unfold follows; simp; omega
    have HF := Lib.hid (HR _ hf)
    have q1 : decide (st < 0) = false := by simp; omega
    have q2 : decide (sv < -1) = false := by simp; omega
    have q3 : decide (et < st) = false := by simp; omega
    have q4 : (st == et) = true := by simp [h4]
    have q5 : (sv == ev) = false := beq_eq_false_iff_ne.2 h5
    have q6 : (ev == -1) = true := by simp [h]
    clear HR hf h4 h h5
    go_enter Tryz.func33, Tryz.ntmps33
    go_wp2_with fail
    go_ret
    rw [← hW]
    exact HF.out
  · have hf : follows (st, sv) (et, ev) = false := by unfold follows; simp; omega
    have HF := Lib.hid (HR _ hf)
    have q1 : decide (st < 0) = false := by simp; omega
    have q2 : decide (sv < -1) = false := by simp; omega
    have q3 : decide (et < st) = false := by simp; omega
    have q4 : (st == et) = true := by simp [h4]
    have q5 : (sv == ev) = false := beq_eq_false_iff_ne.2 h5
    have q6 : (ev == -1) = false := beq_eq_false_iff_ne.2 h
    clear HR hf h4 h h5
    go_enter Tryz.func33, Tryz.ntmps33
    go_wp2_with fail
    go_ret
    rw [← hW]
    exact HF.out

set_option maxRecDepth 20000 in
set_option maxHeartbeats 1600000 in
theorem Ref4Read_any (d : Dk) (Y : Nat → Prop) (gr : Nat) (s : ByteArray) (w : World) (hd : Dsk w Y gr d) (hr : D.Rising d.fs) :
    Calls Tryz.prog 41 #[.pointer (some ⟨gr, 0, none⟩), .string s] w fun e w' => w = w' ∧ ∃ v, e = .returned v ∧ RepB w Y (bytesOf d.fs s) v := by
  obtain ⟨vl, fv, hat⟩ := hd
  obtain ⟨-, ⟨-, c1, -, -⟩, -, hz, -, -⟩ := hat.cells
  obtain ⟨va, vc, rfl⟩ := owned_slice hat.row
  have hfl : (fv.length : Int) ≤ 9223372036854775807 := by have := hat.len.1; omega
  have HLN := Lib.hid hat.len.2
  have HAT := Lib.hid hat
  have HR := Lib.hid hr
  clear hat hr
  go_enter Tryz.func41, Tryz.ntmps41
  go_wp2_with fail
  go_loop [5] (fun i => ∃ k : Nat, k ≤ fv.length ∧ i = .int .i64 (k : Int) ∧ Hid (∀ (j : Nat) (h : j < d.fs.length), j < k → d.fs[j].nm ≠ s)) (fun i => fv.length - (intOf i).toNat)
  case atStart => exact ⟨0, Nat.zero_le _, rfl, Lib.hid fun j h hj => by omega⟩
  case round =>
    obtain ⟨k, hk, rfl, HK⟩ := hrel
    by_cases hlt : k < fv.length
    · have hkk : (k : Int) < (fv.length : Int) := by omega
      obtain ⟨ga, c, hv, -, -, hgz, -, -, e0, e1, -, -⟩ := HAT.out.file k hlt
      cases hv
      have hk2 : k < d.fs.length := by rw [HLN.out]; exact hlt
      have hgt := HAT.out.get k hlt hk2
      obtain ⟨ba, bc, hb, hbl⟩ := HAT.out.bytes k hlt
      have hown := HAT.out.each fv[k] (List.getElem_mem hlt)
      rw [hb] at e1 hown
      rw [hgt] at e0 e1 hown
      obtain ⟨f, hf⟩ : ∃ f, f = d.fs[k] := ⟨_, rfl⟩
      rw [← hf] at e0 e1 hown
      have HFM : Hid (f ∈ d.fs) := Lib.hid (by rw [hf]; exact List.getElem_mem _)
      have HFE := Lib.hid hf
      have HO : Hid (RepB w Y f.b (.slice ba f.b.length bc)) := Lib.hid (by
        have h1 := RepB.of_own hown
        rcases h1 with h1 | ⟨g, off, c, hv, hg, h2⟩
        · exact .inl h1
        · refine .inr ⟨g, off, c, hv, ?_, h2⟩
          exact HAT.out.foot g (mem_blocks_file (List.getElem_mem hlt) (by rw [hb, hgt, ← hf, hv]; rfl)))
      obtain ⟨n, hn⟩ : ∃ n, n = f.b.length := ⟨_, rfl⟩
      rw [← hn] at e1 HO
      clear hgt hb hbl hown hf hn
      cases hq : (f.nm.toList == s.toList) with
      | true =>
        have HNS : Hid (f.nm = s) := Lib.hid (D.nm_ext (by simpa using hq))
        have hq2 : (f.nm.toList == s.toList) = true := hq
        clear hq
        go_wp2_with fail
        go_ret
        refine ⟨rfl, _, rfl, ?_⟩
        have h1 : bytesOf d.fs s = f.b := by
          unfold bytesOf
          rw [← HNS.out, find_some HR.out HFM.out]
        rw [h1]
        exact HO.out
      | false =>
        have HN : Hid (∀ (j : Nat) (h : j < d.fs.length), j < k + 1 → d.fs[j].nm ≠ s) := Lib.hid fun j h hj => by
          rcases Nat.lt_or_ge j k with h1 | h1
          · exact HK.out j h h1
          · obtain rfl : j = k := by omega
            rw [← HFE.out]
            intro e
            rw [e] at hq
            simp at hq
        have hq2 : (f.nm.toList == s.toList) = false := hq
        clear hq
        go_wp2_with fail
        go_round
        case rel => exact ⟨k + 1, by omega, by go_num, HN⟩
        case measure => simp [intOf]; omega
    · have hkk : ¬ (k : Int) < (fv.length : Int) := by omega
      have HE : Hid (bytesOf d.fs s = []) := Lib.hid (by
        unfold bytesOf
        have h1 : d.fs.find? (fun f => decide (f.nm = s)) = none := by
          rw [List.find?_eq_none]
          intro f hf hn
          simp only [decide_eq_true_eq] at hn
          obtain ⟨j, hj, rfl⟩ := List.mem_iff_getElem.1 hf
          exact HK.out j hj (by have := HLN.out; omega) hn
        rw [h1])
      go_wp2_with fail
      go_ret
      exact ⟨rfl, _, rfl, by rw [HE.out]; exact .inl ⟨rfl, Bare.nil⟩⟩
end Go.Proofs.YtgakcaobalfpjaaGreatDoor.M

/- Part: Hard6. -/
namespace Go.Proofs.YtgakcaobalfpjaaGreatDoor.M
open Go.RowKit
open D (Fl Dk)

theorem Dsk.next {w w' : World} {Y : Nat → Prop} {gr : Nat} {d : Dk} (h : Dsk w Y gr d) (hY : ∀ k, Y k → k < w.heap.size) (hb : Below w.heap.size w w') : Dsk w' Y gr d := h.same (fun _ h => h) fun k hk => hb.block k (hY k hk)

set_option maxRecDepth 20000 in
set_option maxHeartbeats 3200000 in
theorem RefOn_any (d : Dk) (Y : Nat → Prop) (gr : Nat) (w : World) (hd : Dsk w Y gr d) (hY : ∀ k, Y k → k < w.heap.size) (hr : D.Rising d.fs) (hu : D.used d.fs ≤ 1099511627776) :
    Calls Tryz.prog 15 #[.pointer (some ⟨gr, 0, none⟩)] w fun e w' => e = .returned (.tuple #[.int .i64 ((newest d.fs).1 : Int), .int .u64 ((newest d.fs).2.1 : Int), .agg #[.int .i64 (newest d.fs).2.2.1, .int .i64 (newest d.fs).2.2.2]]) ∧ Below w.heap.size w w' := by
  obtain ⟨W, hW⟩ : ∃ W, W = w.alloc (.cells #[.int .i64 0, .int .i64 0] 33) := ⟨_, rfl⟩
  have HB : Hid (Below w.heap.size w W) := Lib.hid (by rw [hW]; exact below_alloc _ _)
  have hx0 : W.heap[w.heap.size]? = some (.cells #[.int .i64 0, .int .i64 0] 33) := by rw [hW]; exact heap_new _ _ _ rfl
  have HX0 := Lib.hid hx0
  have HW := Lib.hid hW
  have HD := Lib.hid hd
  have HY := Lib.hid hY
  have HR := Lib.hid hr
  have HU := Lib.hid hu
  clear hW hx0 hd hY hr hu
  go_enter Tryz.func15, Tryz.ntmps15
  go_wp2_with fail
  rw [← HW.out]
  refine (Ref4Read_any d Y gr nmH0 W (HD.out.next HY.out HB.out) HR.out).mono ?_
  rintro e w1 ⟨rfl, v, rfl, hv⟩
  obtain ⟨va, vc, rfl, -⟩ := hv.slice
  have HV := Lib.hid hv
  clear hv
  go_wp2_with fail
  refine (RefSlot_any (bytesOf d.fs nmH0) Y _ W HV.out (fun b hb => Nat.lt_of_lt_of_le (HY.out b hb) HB.out.size) (Nat.le_trans (bytes_le _ _) HU.out)).mono ?_
  rintro e w2 ⟨rfl, hb2⟩
  obtain ⟨s0, hs0⟩ : ∃ s0, s0 = slot (bytesOf d.fs nmH0) := ⟨_, rfl⟩
  rw [← hs0]
  have HS0 := Lib.hid hs0
  obtain ⟨xc, xt, xv⟩ := s0
  have HB2 : Hid (Below w.heap.size w w2) := Lib.hid (HB.out.trans (hb2.mono HB.out.size))
  have HX2 := Lib.hid (old_below HX0.out hb2)
  clear hs0 hb2
  go_wp2_with fail
  obtain ⟨w3, hw3⟩ : ∃ w3, w3 = w2.alloc (.cells #[.int .i64 xt, .int .i64 xv] 33) := ⟨_, rfl⟩
  have hb3 : Below w2.heap.size w2 w3 := by rw [hw3]; exact below_alloc _ _
  have HA3 : Hid (w3.heap[w2.heap.size]? = some (.cells #[.int .i64 xt, .int .i64 xv] 33)) := Lib.hid (by rw [hw3]; exact heap_new _ _ _ rfl)
  have HB3 : Hid (Below w.heap.size w w3) := Lib.hid (HB2.out.trans (hb3.mono HB2.out.size))
  have HX3 := Lib.hid (old_below HX2.out hb3)
  have HZ2 : Hid (w.heap.size < w2.heap.size) := Lib.hid (lt_of_heap HX2.out)
  rw [← hw3]
  clear hw3 hb3
  refine (Ref4Read_any d Y gr nmH1 w3 (HD.out.next HY.out HB3.out) HR.out).mono ?_
  rintro e w4 ⟨rfl, v, rfl, hv⟩
  obtain ⟨vb, vd, rfl, -⟩ := hv.slice
  have HV1 := Lib.hid hv
  clear hv
  go_wp2_with fail
  refine (RefSlot_any (bytesOf d.fs nmH1) Y _ w3 HV1.out (fun b hb => Nat.lt_of_lt_of_le (HY.out b hb) HB3.out.size) (Nat.le_trans (bytes_le _ _) HU.out)).mono ?_
  rintro e w5 ⟨rfl, hb5⟩
  obtain ⟨s1, hs1⟩ : ∃ s1, s1 = slot (bytesOf d.fs nmH1) := ⟨_, rfl⟩
  rw [← hs1]
  have HS1 := Lib.hid hs1
  obtain ⟨yc, yt, yv⟩ := s1
  have HB5 : Hid (Below w.heap.size w w5) := Lib.hid (HB3.out.trans (hb5.mono HB3.out.size))
  have HX5 := Lib.hid (old_below HX3.out hb5)
  have HA5 := Lib.hid (old_below HA3.out hb5)
  clear hs1 hb5
  obtain ⟨c0, c1, f0, f1, cz⟩ := block2 HX5.out
  obtain ⟨a0, a1, -, -, az⟩ := block2 HA5.out
  have HN : Hid (newest d.fs = if xc = 0 ∧ yc = 0 then (2, 0, (0, -1)) else if xc < yc then (1, yc, (yt, yv)) else (0, xc, (xt, xv))) := Lib.hid (by
    unfold newest
    rw [← HS0.out, ← HS1.out])
  by_cases hz : xc = 0 ∧ yc = 0
  · have HN2 : Hid (newest d.fs = (2, 0, (0, -1))) := Lib.hid (by rw [HN.out, if_pos hz])
    obtain ⟨rfl, rfl⟩ := hz
    simp only [Int.natCast_zero]
    go_wp2_with fail
    refine bodyPost_ret (v := .tuple #[.int .i64 2, .int .u64 0, .agg #[.int .i64 0, .int .i64 (-1)]]) (by simp [results, Tryz.results15, go_sem, c0, c1, cz]) rfl ?_
    rw [HN2.out]
    refine ⟨rfl, ?_⟩
    exact ((HB5.out.setCell (by simp) _).setCell (by simp) _).alloc (by simpa using HB5.out.size) _
  · obtain ⟨wr, hwr⟩ : ∃ wr, wr = w5.alloc (.cells #[.int .i64 yt, .int .i64 yv] 33) := ⟨_, rfl⟩
    have hbr : Below w5.heap.size w5 wr := by rw [hwr]; exact below_alloc _ _
    have hbx : wr.heap[w5.heap.size]? = some (.cells #[.int .i64 yt, .int .i64 yv] 33) := by rw [hwr]; exact heap_new _ _ _ rfl
    have HBR : Hid (Below w.heap.size w wr) := Lib.hid (HB5.out.trans (hbr.mono HB5.out.size))
    have HXR := Lib.hid (old_below HX5.out hbr)
    have HAR := Lib.hid (old_below HA5.out hbr)
    obtain ⟨v0, v1, -, -, vz⟩ := block2 hbx
    obtain ⟨a0', a1', -, -, az'⟩ := block2 HAR.out
    have hne1 : w5.heap.size ≠ w.heap.size := by omega
    have hne2 : w2.heap.size ≠ w.heap.size := by have := HZ2.out; omega
    have oc : ∀ (w' : World) (q j : Nat) (u : Value), Only (fun k => k = w.heap.size) wr w' → q < wr.heap.size → q ≠ w.heap.size → wr.cell? ⟨q, j, none⟩ = some u → w'.cell? ⟨q, j, none⟩ = some u := fun w' q j u ho hq hn hu => (World.cell?_of_block (a := ⟨q, j, none⟩) (ho.block q hq hn)).trans hu
    have p0 : ∀ w', Only (fun k => k = w.heap.size) wr w' → w'.cell? ⟨w5.heap.size, 0, none⟩ = some (.int .i64 yt) := fun w' ho => oc w' _ _ _ ho vz hne1 v0
    have p1 : ∀ w', Only (fun k => k = w.heap.size) wr w' → w'.cell? ⟨w5.heap.size, 1, none⟩ = some (.int .i64 yv) := fun w' ho => oc w' _ _ _ ho vz hne1 v1
    have u0 : ∀ w', Only (fun k => k = w.heap.size) wr w' → w'.cell? ⟨w2.heap.size, 0, none⟩ = some (.int .i64 xt) := fun w' ho => oc w' _ _ _ ho az' hne2 a0'
    have u1 : ∀ w', Only (fun k => k = w.heap.size) wr w' → w'.cell? ⟨w2.heap.size, 1, none⟩ = some (.int .i64 xv) := fun w' ho => oc w' _ _ _ ho az' hne2 a1'
    have hS : Only (fun k => k = w.heap.size) wr wr.drew := Only.of_below (Below.refl _ _).drew
    have HWR := Lib.hid hwr
    clear hwr
    clear oc hbr hbx v0 v1 a0' a1' a0 a1 c0 c1 f0 f1 cz az
    obtain ⟨c0, c1, f0, f1, cz⟩ := block2 HXR.out
    simp only
    by_cases hlt : xc < yc
    · have HN2 : Hid (newest d.fs = (1, yc, (yt, yv))) := Lib.hid (by rw [HN.out, if_neg hz, if_pos hlt])
      have q3 : (xc : Int) < (yc : Int) := by omega
      rcases (show (xc : Int) = 0 ∧ (yc : Int) ≠ 0 ∨ (xc : Int) ≠ 0 by omega) with ⟨k1, k2⟩ | k1
      · have q1 : ((xc : Int) == 0) = true := by simpa using k1
        have q2 : ((yc : Int) == 0) = false := beq_eq_false_iff_ne.2 k2
        clear k1 k2 hz hlt
        go_wp2_with fail
        rw [← HWR.out]
        refine wp_region_held (S := fun w' => Only (fun k => k = w.heap.size) wr w') (by kernel_rfl) ?_
        refine H_take (i := 0) (v := ?_) rfl (by as_aux_lemma => kernel_rfl) (by as_aux_lemma => kernel_rfl) (by as_aux_lemma => kernel_rfl) (fun _ _ _ h => h) (by rfl) hS ?_ ?_
        rotate_left
        · intro w' hw'; go_simp; with_reducible rfl
        go_simp
        refine H_take (i := 1) (v := ?_) rfl (by as_aux_lemma => kernel_rfl) (by as_aux_lemma => kernel_rfl) (by as_aux_lemma => kernel_rfl) (fun _ _ _ h => h) (by rfl) hS ?_ ?_
        rotate_left
        · intro w' hw'; go_simp; with_reducible rfl
        go_simp
        refine H_take (i := 2) (v := ?_) rfl (by as_aux_lemma => kernel_rfl) (by as_aux_lemma => kernel_rfl) (by as_aux_lemma => kernel_rfl) (fun _ _ _ h => h) (by rfl) hS ?_ ?_
        rotate_left
        · intro w' hw'; go_simp; with_reducible rfl
        go_simp
        refine H_take (i := 3) (v := ?_) rfl (by as_aux_lemma => kernel_rfl) (by as_aux_lemma => kernel_rfl) (by as_aux_lemma => kernel_rfl) (fun _ _ _ h => h) (by rfl) hS ?_ ?_
        rotate_left
        · intro w' hw'; go_simp; with_reducible rfl
        go_simp
        refine H_one (i := 4) (by as_aux_lemma => kernel_rfl) rfl (by rfl) ?_
        go_simp
        have hS2 : Only (fun k => k = w.heap.size) wr ((wr.setCell ⟨w.heap.size, 0, none⟩ (.int .i64 yt)).setCell ⟨w.heap.size, 1, none⟩ (.int .i64 yv)).drew := by
          have h := ((Only.refl (fun k => k = w.heap.size) wr).set (g := w.heap.size) (j := 0) (.inl rfl) (.int .i64 yt)).set (g := w.heap.size) (j := 1) (.inl rfl) (.int .i64 yv)
          exact ⟨h.os, h.tape, h.output, h.size, h.block⟩
        refine ⟨hS2, ?_⟩
        refine wpAnyH_done (by as_aux_lemma => kernel_rfl) ?_ _
        clear p0 p1 u0 u1 hS hS2
        go_wp2_with fail
        refine bodyPost_ret (v := .tuple #[.int .i64 1, .int .u64 (yc : Int), .agg #[.int .i64 yt, .int .i64 yv]]) (by simp [results, Tryz.results15, go_sem, c0, c1, cz]) rfl ?_
        rw [HN2.out]
        exact ⟨rfl, ((HBR.out.setCell (by simp) _).setCell (by simp) _).drew⟩
      · have q1 : ((xc : Int) == 0) = false := beq_eq_false_iff_ne.2 k1
        clear k1 hz hlt
        go_wp2_with fail
        rw [← HWR.out]
        refine wp_region_held (S := fun w' => Only (fun k => k = w.heap.size) wr w') (by kernel_rfl) ?_
        refine H_take (i := 0) (v := ?_) rfl (by as_aux_lemma => kernel_rfl) (by as_aux_lemma => kernel_rfl) (by as_aux_lemma => kernel_rfl) (fun _ _ _ h => h) (by rfl) hS ?_ ?_
        rotate_left
        · intro w' hw'; go_simp; with_reducible rfl
        go_simp
        refine H_take (i := 1) (v := ?_) rfl (by as_aux_lemma => kernel_rfl) (by as_aux_lemma => kernel_rfl) (by as_aux_lemma => kernel_rfl) (fun _ _ _ h => h) (by rfl) hS ?_ ?_
        rotate_left
        · intro w' hw'; go_simp; with_reducible rfl
        go_simp
        refine H_take (i := 2) (v := ?_) rfl (by as_aux_lemma => kernel_rfl) (by as_aux_lemma => kernel_rfl) (by as_aux_lemma => kernel_rfl) (fun _ _ _ h => h) (by rfl) hS ?_ ?_
        rotate_left
        · intro w' hw'; go_simp; with_reducible rfl
        go_simp
        refine H_take (i := 3) (v := ?_) rfl (by as_aux_lemma => kernel_rfl) (by as_aux_lemma => kernel_rfl) (by as_aux_lemma => kernel_rfl) (fun _ _ _ h => h) (by rfl) hS ?_ ?_
        rotate_left
        · intro w' hw'; go_simp; with_reducible rfl
        go_simp
        refine H_one (i := 4) (by as_aux_lemma => kernel_rfl) rfl (by rfl) ?_
        go_simp
        have hS2 : Only (fun k => k = w.heap.size) wr ((wr.setCell ⟨w.heap.size, 0, none⟩ (.int .i64 yt)).setCell ⟨w.heap.size, 1, none⟩ (.int .i64 yv)).drew := by
          have h := ((Only.refl (fun k => k = w.heap.size) wr).set (g := w.heap.size) (j := 0) (.inl rfl) (.int .i64 yt)).set (g := w.heap.size) (j := 1) (.inl rfl) (.int .i64 yv)
          exact ⟨h.os, h.tape, h.output, h.size, h.block⟩
        refine ⟨hS2, ?_⟩
        refine wpAnyH_done (by as_aux_lemma => kernel_rfl) ?_ _
        clear p0 p1 u0 u1 hS hS2
        go_wp2_with fail
        refine bodyPost_ret (v := .tuple #[.int .i64 1, .int .u64 (yc : Int), .agg #[.int .i64 yt, .int .i64 yv]]) (by simp [results, Tryz.results15, go_sem, c0, c1, cz]) rfl ?_
        rw [HN2.out]
        exact ⟨rfl, ((HBR.out.setCell (by simp) _).setCell (by simp) _).drew⟩
    · have HN2 : Hid (newest d.fs = (0, xc, (xt, xv))) := Lib.hid (by rw [HN.out, if_neg hz, if_neg hlt])
      have q3 : ¬ (xc : Int) < (yc : Int) := by omega
      have q4 : yc ≤ xc := by omega
      have q1 : ((xc : Int) == 0) = false := beq_eq_false_iff_ne.2 (by omega)
      clear hz hlt
      go_wp2_with fail
      rw [← HWR.out]
      refine wp_region_held (S := fun w' => Only (fun k => k = w.heap.size) wr w') (by kernel_rfl) ?_
      refine H_take (i := 0) (v := ?_) rfl (by as_aux_lemma => kernel_rfl) (by as_aux_lemma => kernel_rfl) (by as_aux_lemma => kernel_rfl) (fun _ _ _ h => h) (by rfl) hS ?_ ?_
      rotate_left
      · intro w' hw'; go_simp; with_reducible rfl
      go_simp
      refine H_take (i := 1) (v := ?_) rfl (by as_aux_lemma => kernel_rfl) (by as_aux_lemma => kernel_rfl) (by as_aux_lemma => kernel_rfl) (fun _ _ _ h => h) (by rfl) hS ?_ ?_
      rotate_left
      · intro w' hw'; go_simp; with_reducible rfl
      go_simp
      refine H_take (i := 2) (v := ?_) rfl (by as_aux_lemma => kernel_rfl) (by as_aux_lemma => kernel_rfl) (by as_aux_lemma => kernel_rfl) (fun _ _ _ h => h) (by rfl) hS ?_ ?_
      rotate_left
      · intro w' hw'; go_simp; with_reducible rfl
      go_simp
      refine H_take (i := 3) (v := ?_) rfl (by as_aux_lemma => kernel_rfl) (by as_aux_lemma => kernel_rfl) (by as_aux_lemma => kernel_rfl) (fun _ _ _ h => h) (by rfl) hS ?_ ?_
      rotate_left
      · intro w' hw'; go_simp; with_reducible rfl
      go_simp
      refine H_one (i := 4) (by as_aux_lemma => kernel_rfl) rfl (by rfl) ?_
      go_simp
      have hS2 : Only (fun k => k = w.heap.size) wr ((wr.setCell ⟨w.heap.size, 0, none⟩ (.int .i64 xt)).setCell ⟨w.heap.size, 1, none⟩ (.int .i64 xv)).drew := by
        have h := ((Only.refl (fun k => k = w.heap.size) wr).set (g := w.heap.size) (j := 0) (.inl rfl) (.int .i64 xt)).set (g := w.heap.size) (j := 1) (.inl rfl) (.int .i64 xv)
        exact ⟨h.os, h.tape, h.output, h.size, h.block⟩
      refine ⟨hS2, ?_⟩
      refine wpAnyH_done (by as_aux_lemma => kernel_rfl) ?_ _
      clear p0 p1 u0 u1 hS hS2
      go_wp2_with fail
      refine bodyPost_ret (v := .tuple #[.int .i64 0, .int .u64 (xc : Int), .agg #[.int .i64 xt, .int .i64 xv]]) (by simp [results, Tryz.results15, go_sem, c0, c1, cz]) rfl ?_
      rw [HN2.out]
      exact ⟨rfl, ((HBR.out.setCell (by simp) _).setCell (by simp) _).drew⟩
end Go.Proofs.YtgakcaobalfpjaaGreatDoor.M

/- Part: RefNumber. -/
namespace Go.Proofs.YtgakcaobalfpjaaGreatDoor.M
open Go.RowKit

theorem dig_zero (k : Nat) : dig k 0 = [] := by cases k <;> simp [dig]

/-- One digit more is taken off. -/
theorem dig_next {f n : Nat} {Ls D : List UInt8} (h : D = dig (f + 1) n ++ Ls.reverse) (hn : n ≠ 0) : D = dig f (n / 256) ++ (Ls ++ [UInt8.ofNat (n % 256)]).reverse := by
  rw [h, dig, if_neg hn]
  simp

theorem rev_take {Ls : List UInt8} {j : Nat} (h0 : 0 < j) (h : j ≤ Ls.length) :
    Ls.reverse.take (Ls.length - (j - 1)) = Ls.reverse.take (Ls.length - j) ++ [Ls[j - 1]'(by omega)] := by
  rw [show Ls.length - (j - 1) = Ls.length - j + 1 from by omega, List.take_add_one, List.getElem?_reverse (by omega), show Ls.length - 1 - (Ls.length - j) = j - 1 from by omega, List.getElem?_eq_getElem (by omega)]
  rfl

set_option maxRecDepth 20000 in
set_option maxHeartbeats 1600000 in
theorem Number_any (N : Nat) (w : World) (hN : Hid (N < 18446744073709551616)) :
    Calls Tryz.prog 80 #[.int .u64 (N : Int)] w fun e w' => ∃ v, e = .returned v ∧ Below w.heap.size w w' ∧ w'.ownsRow w.heap.size 5 1 v (num N).length ((num N).map byteV) := by
  obtain ⟨ib, hib, hib0, hib1, hib2⟩ := info_parts infoByte
  have hs : ∃ n : Nat, n = N := ⟨N, rfl⟩
  have HST : Hid (N < 256 ^ 8) := Lib.hid hN.out
  rw [show num N = UInt8.ofNat (dig 8 N).length :: dig 8 N from rfl]
  have HDS : Hid (dig 8 N = dig 8 N ++ [].reverse) := Lib.hid (by simp)
  clear hs hN
  go_enter Tryz.func80, Tryz.ntmps80
  go_wp2_with fail
  go_loopw [0, 3] (fun x lo wr => ∃ (n : Nat) (Ls : List UInt8) (v : Value), x = .int .u64 (n : Int) ∧ lo = v ∧ Ls.length ≤ 8 ∧ Hid (dig 8 N = dig (8 - Ls.length) n ++ Ls.reverse ∧ n < 256 ^ (8 - Ls.length)) ∧
      Acc w w.heap.size (.slice none 0 0) wr v Ls) (fun x _ _ => (intOf x).toNat)
  case atStart => exact ⟨N, [], _, rfl, rfl, by simp, Lib.hid ⟨HDS.out, HST.out⟩, Acc.start (L := []) (World.ownsRow_nil _ _ _ _)⟩
  case round =>
    obtain ⟨n, Ls, v, rfl, rfl, hl8, HI, hacc⟩ := hrel
    by_cases hn0 : 0 < n
    · have hl7 : Ls.length < 8 := by
        rcases Nat.lt_or_ge Ls.length 8 with h | h
        · exact h
        · have := HI.out.2
          rw [show 8 - Ls.length = 0 from by omega] at this
          omega
      obtain ⟨a, c, rfl⟩ := owned_slice hacc.1
      have hnn : (0 : Int) < (n : Int) := by omega
      have hsz := hacc.2.1.size
      have HA := Lib.hid hacc
      clear hacc
      go_wp2_with (at_builtin; refine wpList_append_own2 _ rfl _ _ 35 rfl w.heap.size 5 ib (.int .u8 0) 1 1 Tryz.underlying35 hib hib0 hib1 hib2 rfl (by decide) _ _ _ rfl (HA.out.1.alloc _) ⟨wr.heap.size, 0, none⟩ 1 1 [.int .u8 ((n : Int) % 256)] rfl rfl ?c1 ?c2 ?c3 ?c4 ?c5 ?_)
      case c1 => exact one_new rfl
      case c2 => intro u hu; simp at hu; rw [hu]; rfl
      case c3 => unfold maxLen; omega
      case c4 => omega
      case c5 => simp; omega
      intro v' w4 hown2 hg _ hwhere
      have hacc := HA.out.push (b := UInt8.ofNat (n % 256)) hown2 rfl (by rw [byteV, UInt8.toNat_ofNat_of_lt' (by show _ < 256; omega)]; simp) hg (by simpa using hwhere)
      have HI2 : Hid (dig 8 N = dig (8 - (Ls ++ [UInt8.ofNat (n % 256)]).length) (n / 256) ++ (Ls ++ [UInt8.ofNat (n % 256)]).reverse ∧ n / 256 < 256 ^ (8 - (Ls ++ [UInt8.ofNat (n % 256)]).length)) := Lib.hid (by
        obtain ⟨h1, h2⟩ := HI.out
        rw [List.length_append, List.length_singleton]
        rw [show 8 - Ls.length = 8 - (Ls.length + 1) + 1 from by omega] at h1 h2
        refine ⟨dig_next h1 (by omega), ?_⟩
        rw [Nat.div_lt_iff_lt_mul (by omega), ← Nat.pow_succ]
        exact h2)
      have HW : Hid (IntKind.u64.wrap ((n : Int) / 256) = ((n / 256 : Nat) : Int)) := Lib.hid (by
        have h2 := HI.out.2
        have h3 : (256 : Nat) ^ (8 - Ls.length) ≤ 256 ^ 8 := Nat.pow_le_pow_right (by omega) (by omega)
        rw [IntWalk.u64_in _ (by omega)]; simp)
      have HA2 := Lib.hid hacc
      clear hown2 hg hwhere hacc
      go_wp2_with fail
      go_roundw
      case rel => exact ⟨n / 256, Ls ++ [UInt8.ofNat (n % 256)], v', by rw [HW.out], rfl, by simp; omega, HI2, HA2.out⟩
      case measure => rw [HW.out]; simp [intOf]; omega
    · have hnn : ¬ (0 : Int) < (n : Int) := by omega
      have HD : Hid (dig 8 N = Ls.reverse) := Lib.hid (by
        obtain ⟨h1, h2⟩ := HI.out
        obtain rfl : n = 0 := by omega
        rw [h1, dig_zero]; rfl)
      obtain ⟨a, c, rfl⟩ := owned_slice hacc.1
      have hsz := hacc.2.1.size
      have HA := Lib.hid hacc
      rw [HD.out]
      have hwr : RepB wr (fun b => b < wr.heap.size) Ls (.slice a Ls.length c) := (RepB.of_own HA.out.1).same (fun b hb => hb.2) fun _ _ => rfl
      have hown0 := World.ownsRow_lit wr #[.int .u8 (Ls.length : Int)] 1 (base := wr.heap.size) (e := 5) (size := 1) (Nat.le_refl _) (by unfold maxLen; omega) rfl
      have hl256 : (UInt8.ofNat Ls.length).toNat = Ls.length := UInt8.toNat_ofNat_of_lt' (by show _ < 256; omega)
      have hstart : Acc (wr.alloc (.cells #[.int .u8 (Ls.length : Int)] 5)) wr.heap.size (.slice (some ⟨wr.heap.size, 0, none⟩) 1 1) (wr.alloc (.cells #[.int .u8 (Ls.length : Int)] 5)) (.slice (some ⟨wr.heap.size, 0, none⟩) 1 1) [UInt8.ofNat Ls.length] :=
        Acc.start (by simpa [byteV, hl256] using hown0)
      have HWR := Lib.hid hwr
      have HSTA := Lib.hid hstart
      clear hacc hwr hown0 hl256 hstart
      obtain ⟨wo, rfl⟩ : ∃ wo : World, wo = wr := ⟨_, rfl⟩
      go_wp2_with fail
      go_loopw [4, 5] (fun o i w1 => ∃ (j : Nat) (x : Int) (v : Value), o = v ∧ i = .int .i64 x ∧ Hid (x = (j : Int) - 1) ∧ j ≤ Ls.length ∧
          Acc (wo.alloc (.cells #[.int .u8 (Ls.length : Int)] 5)) wo.heap.size (.slice (some ⟨wo.heap.size, 0, none⟩) 1 1) w1 v ([UInt8.ofNat Ls.length] ++ Ls.reverse.take (Ls.length - j))) (fun _ i _ => upOne i)
      case atStart => exact ⟨Ls.length, _, _, rfl, rfl, Lib.hid rfl, Nat.le_refl _, by simpa using HSTA.out⟩
      case round =>
        obtain ⟨j, x, v, rfl, rfl, HX, hj, hacc⟩ := hrel
        have HA3 := Lib.hid hacc
        have hkeep : ∀ b, b < wo.heap.size → wr.heap[b]? = wo.heap[b]? := fun b hb => by
          rw [hacc.2.1.block b (by simp; omega) (by simp [Value.ownBlock]; omega), Below.heap_alloc _ _ _ hb]
        have hz3 := hacc.2.1.size
        simp only [World.size_alloc] at hz3
        by_cases hj0 : 0 < j
        · have hx0 : 0 ≤ x := by have := HX.out; omega
          have hx8 : x ≤ 7 := by have := HX.out; omega
          have hxl : x < (Ls.length : Int) := by have := HX.out; omega
          have hjx : x.toNat = j - 1 := by have := HX.out; omega
          have hcell : ∃ b off, a = some ⟨b, off, none⟩ ∧ b < wo.heap.size ∧ wr.cell? ⟨b, off + x.toNat, none⟩ = some (.int .u8 ((Ls[j - 1]'(by omega)).toNat : Int)) := by
            rcases HWR.out with ⟨h, _⟩ | ⟨b, off, c, h, hb, _, _, hc⟩
            · rw [h] at hj; simp at hj; omega
            · cases h
              refine ⟨b, off, rfl, hb, ?_⟩
              rw [World.cell?_of_block (by exact hkeep b hb), hjx]
              exact hc (j - 1) (by omega)
          obtain ⟨b, off, rfl, hb, hcell⟩ := hcell
          have HJX := Lib.hid hjx
          generalize hdd : (Ls[j - 1]'(by omega)) = d at *
          have HDD := Lib.hid hdd
          clear hacc hkeep hjx hdd
          go_wp2_with (at_builtin; refine wpList_append_own2 _ rfl _ _ 35 rfl wo.heap.size 5 ib (.int .u8 0) 1 1 Tryz.underlying35 hib hib0 hib1 hib2 rfl (by decide) _ _ _ rfl (HA3.out.1.alloc _) ⟨wr.heap.size, 0, none⟩ 1 1 [.int .u8 (d.toNat : Int)] rfl rfl ?d1 ?d2 ?d3 ?d4 ?d5 ?_)
          case d1 => exact one_new rfl
          case d2 => intro u hu; simp at hu; rw [hu]; rfl
          case d3 => simp; unfold maxLen; omega
          case d4 => simp; omega
          case d5 => simp; omega
          intro v' w4 hown2 hg _ hwhere
          have hacc3 := HA3.out.push (b := d) hown2 (by simp) (by simp [byteV]) hg (by simpa using hwhere)
          have HACC3 : Hid (Acc (wo.alloc (.cells #[.int .u8 (Ls.length : Int)] 5)) wo.heap.size (.slice (some ⟨wo.heap.size, 0, none⟩) 1 1) w4 v' ([UInt8.ofNat Ls.length] ++ Ls.reverse.take (Ls.length - (j - 1)))) := Lib.hid (by
            rw [rev_take hj0 hj, HDD.out, ← List.append_assoc]; exact hacc3)
          have HX3 : Hid (x - 1 = ((j - 1 : Nat) : Int) - 1) := Lib.hid (by have := HX.out; omega)
          have hj3 : j - 1 ≤ Ls.length := by omega
          clear hown2 hg hwhere hacc3
          go_wp2_with fail
          go_roundw
          case rel => exact ⟨j - 1, x - 1, v', rfl, rfl, HX3, hj3, HACC3.out⟩
          case measure => simp [upOne, intOf, Go.RowKit.intOf]; omega
        · have hx0 : x < 0 := by have := HX.out; omega
          have HJ : Hid (Ls.length - j = Ls.length) := Lib.hid (by omega)
          clear hacc hkeep hj0
          go_wp2_with fail
          go_ret
          refine ⟨_, rfl, ?_, ?_⟩
          · have hg := HA.out.2.1
            have hg3 := HA3.out.2.1
            refine ⟨hg3.os.trans hg.os, hg3.tape.trans hg.tape, hg3.output.trans hg.output, by omega, fun k hk => ?_⟩
            rw [hg3.block k (by simp; omega) (by simp [Value.ownBlock]; omega), Below.heap_alloc _ _ _ (by omega)]
            exact hg.block k hk (by simp [Value.ownBlock])
          · have h := HA3.out.1
            rw [HJ.out, List.take_of_length_le (by simp)] at h
            rw [HD.out]
            obtain ⟨h1, h2⟩ := h
            refine ⟨by simp, ?_⟩
            rcases h2 with ⟨h2, h3⟩ | ⟨g, cap, cur, h3, h4, h5⟩
            · simp at h3
            · exact .inr ⟨g, cap, cur, by simpa using h3, by omega, by simpa using h5⟩
end Go.Proofs.YtgakcaobalfpjaaGreatDoor.M

/- Part: Hard2. -/
namespace Go.Proofs.YtgakcaobalfpjaaGreatDoor.M
open Go.RowKit
open D (Fl Dk)

theorem Own.from {w W wr : World} {L : List UInt8} {v : Value} (h : Own W L v wr) (hb : Below w.heap.size w W) : Own w L v wr :=
  ⟨hb.trans (h.1.mono hb.size), h.2.1, by
    rcases h.2.2 with h1 | ⟨g, cap, cur, h1, h2, h3⟩
    · exact .inl h1
    · exact .inr ⟨g, cap, cur, h1, Nat.le_trans hb.size h2, h3⟩⟩

/-- A sum's four bytes, laid as a literal. -/
theorem own_four {w wr : World} {cs g : Nat} (h : Below w.heap.size w wr) (hg : g = wr.heap.size) (hc : cs < 4294967296) :
    Own w (four cs) (.slice (some ⟨g, 0, none⟩) 4 4) (wr.alloc (.cells #[.int .u8 ((cs : Int) / 16777216), .int .u8 ((cs : Int) / 65536 % 256), .int .u8 ((cs : Int) / 256 % 256), .int .u8 ((cs : Int) % 256)] 5)) := by
  subst hg
  refine ⟨h.alloc h.size _, ?_⟩
  have h1 := World.ownsRow_lit wr #[.int .u8 ((cs : Int) / 16777216), .int .u8 ((cs : Int) / 65536 % 256), .int .u8 ((cs : Int) / 256 % 256), .int .u8 ((cs : Int) % 256)] 4 (base := w.heap.size) (e := 5) (size := 1) h.size (by unfold maxLen; omega) rfl
  have e : (four cs).map byteV = [.int .u8 ((cs : Int) / 16777216), .int .u8 ((cs : Int) / 65536 % 256), .int .u8 ((cs : Int) / 256 % 256), .int .u8 ((cs : Int) % 256)] := by
    unfold four
    simp only [List.map_cons, List.map_nil, byteV, UInt8.toNat_ofNat']
    congr 2 <;> omega
  rw [e]
  exact h1

set_option maxRecDepth 20000 in
set_option maxHeartbeats 1600000 in
theorem RefBytes_any (c t v : Nat) (w : World) (hc : Hid (c < 18446744073709551616)) (ht : t < 9223372036854775807) (hv : v ≤ 9223372036854775807) :
    Calls Tryz.prog 34 #[.int .u64 (c : Int), stV ((t : Int), (v : Int) - 1)] w fun r w' => ∃ u, r = .returned u ∧ Own w (slotForm c ((t : Int), (v : Int) - 1)) u w' := by
  simp only [stV]
  obtain ⟨W, hW⟩ : ∃ W, W = w.alloc (.cells #[.int .i64 (t : Int), .int .i64 ((v : Int) - 1)] 33) := ⟨_, rfl⟩
  have HB : Hid (Below w.heap.size w W) := Lib.hid (by rw [hW]; exact below_alloc _ _)
  obtain ⟨g, hg⟩ : ∃ g, g = w.heap.size := ⟨_, rfl⟩
  have HC : Hid (∀ w' : World, Below W.heap.size W w' → w'.cell? ⟨g, 0, none⟩ = some (.int .i64 (t : Int)) ∧ w'.cell? ⟨g, 1, none⟩ = some (.int .i64 ((v : Int) - 1)) ∧ g < w'.heap.size) := Lib.hid fun w' hb => by
    have h0 := fun j => cell_of_row W w.heap.size j _ _ _ (by rw [hW]; exact heap_alloc_new w (.cells #[.int .i64 (t : Int), .int .i64 ((v : Int) - 1)] 33))
    have hz : g < W.heap.size := by rw [hW, hg]; simp
    have e := hb.block g hz
    rw [← hg] at h0
    exact ⟨(World.cell?_of_block (a := ⟨g, 0, none⟩) e).trans (h0 0), (World.cell?_of_block (a := ⟨g, 1, none⟩) e).trans (h0 1), Nat.lt_of_lt_of_le hz hb.size⟩
  have HG := Lib.hid hg
  have HW := Lib.hid hW
  clear hg hW
  go_enter Tryz.func34, Tryz.ntmps34
  go_wp2_with fail
  rw [← HG.out, ← HW.out]
  refine (Number_any c W hc).mono ?_
  rintro e w1 ⟨v1, rfl, h1⟩
  have H1 : Hid (Own W (num c) v1 w1) := Lib.hid h1
  obtain ⟨a1, k1, rfl⟩ := H1.out.slice
  clear h1
  go_wp2_with (at_builtin; refine wpList_own_append (w := W) (L := []) (L2 := num c) rfl (.tmp 7) (.tmp 9) rfl rfl rfl (Own.bare H1.out.1) rfl H1.out.rep (by have := num_le c; simp; omega) ?_)
  intro v2 w2 h2
  have H2 : Hid (Own W (num c) v2 w2) := Lib.hid h2
  obtain ⟨a2, k2, rfl⟩ := H2.out.slice
  obtain ⟨e0, e1, ez⟩ := HC.out w2 H2.out.1
  clear h2
  go_wp2_with fail
  refine (Number_any t w2 (Lib.hid (by omega))).mono ?_
  rintro e w3 ⟨v3, rfl, h3⟩
  have H3 : Hid (Own w2 (num t) v3 w3) := Lib.hid h3
  obtain ⟨a3, k3, rfl⟩ := H3.out.slice
  have H2' : Hid (Own W (num c) (.slice a2 (num c).length k2) w3) := Lib.hid (H2.out.next h3.1)
  clear h3 e0 e1 ez
  go_wp2_with (at_builtin; refine wpList_own_append (w := W) (L := num c) (L2 := num t) rfl (.tmp 11) (.tmp 15) rfl rfl rfl H2'.out rfl H3.out.rep (by have := num_le c; have := num_le t; simp; omega) ?_)
  intro v4 w4 h4
  have H4 : Hid (Own W (num c ++ num t) v4 w4) := Lib.hid h4
  obtain ⟨L4, hL4⟩ : ∃ L4, L4 = num c ++ num t := ⟨_, rfl⟩
  rw [← hL4] at H4
  have HL4 := Lib.hid hL4
  obtain ⟨a4, k4, rfl⟩ := H4.out.slice
  obtain ⟨e0, e1, ez⟩ := HC.out w4 H4.out.1
  have q1 : (v : Int) - 1 + 1 = (v : Int) := by omega
  clear h4 hL4
  go_wp2_with fail
  refine (Number_any v w4 (Lib.hid (by omega))).mono ?_
  rintro e w5 ⟨v5, rfl, h5⟩
  have H5 : Hid (Own w4 (num v) v5 w5) := Lib.hid h5
  obtain ⟨a5, k5, rfl⟩ := H5.out.slice
  have H4' : Hid (Own W L4 (.slice a4 L4.length k4) w5) := Lib.hid (H4.out.next h5.1)
  clear h5 e0 e1 ez q1
  go_wp2_with (at_builtin; refine wpList_own_append (w := W) (L := L4) (L2 := num v) rfl (.tmp 17) (.tmp 22) rfl rfl rfl H4'.out rfl H5.out.rep (by have := num_le c; have := num_le t; have := num_le v; rw [HL4.out]; simp; omega) ?_)
  intro v6 w6 h6
  obtain ⟨L, hL⟩ : ∃ L, L = stForm c ((t : Int), (v : Int) - 1) := ⟨_, rfl⟩
  have H6 : Hid (Own W L v6 w6) := Lib.hid (by
    rw [hL]
    rw [HL4.out, List.append_assoc] at h6
    unfold stForm
    simp only [Int.toNat_natCast, show ((v : Int) - 1 + 1).toNat = v by omega]
    exact h6)
  have HL := Lib.hid hL
  obtain ⟨a6, k6, rfl⟩ := H6.out.slice
  clear h6 hL
  go_wp2_with fail
  refine (RefOf_any L _ _ w6 H6.out.rep).mono ?_
  rintro e w7 ⟨rfl, rfl⟩
  have hcs : C.sumOf L < 4294967296 := C.sumOf_lt L
  obtain ⟨cs, hcs2⟩ : ∃ cs, cs = C.sumOf L := ⟨_, rfl⟩
  rw [← hcs2] at hcs ⊢
  have HCS := Lib.hid hcs2
  clear hcs2
  go_wp2_with (at_builtin; refine wpList_own_append (w := W) (L := four cs) (L2 := L) rfl (.tmp 37) (.tmp 38) rfl rfl rfl (own_four H6.out.1 rfl hcs) rfl (H6.out.rep.same (fun _ h => h) fun k hk => Below.heap_alloc _ _ _ hk.2) (by have := stForm_le c ((t : Int), (v : Int) - 1); rw [HL.out, four_length]; omega) ?_)
  intro v8 w8 h8
  have H8 : Hid (Own w (slotForm c ((t : Int), (v : Int) - 1)) v8 w8) := Lib.hid (by
    have h9 := h8.from HB.out
    rw [HCS.out, HL.out] at h9
    exact h9)
  clear h8
  go_wp2_with fail
  go_ret
  exact ⟨_, rfl, H8.out⟩
end Go.Proofs.YtgakcaobalfpjaaGreatDoor.M

/- Part: DiskAwake. -/
namespace Go.Proofs.YtgakcaobalfpjaaGreatDoor.M
open Go.RowKit Go.Maps
open D (Fl Dk)

/-- A disk's call is told bytes of a new block. -/
theorem DS.one {w wr : World} {X : Nat → Prop} {gd : Nat} {d : Dk} (h : DS w X gd d wr) (L : List UInt8) (n : Nat) (hn : n = L.length) (hl : L.length ≤ 9223372036854775807) (fr : Nat × Nat) (t1 t2 : TypeId) {W : World}
    (hW : W = (wr.alloc (.cells (L.map byteV).toArray t1 fr)).alloc (.cells #[.slice (some ⟨wr.heap.size, 0, none⟩) n n] t2)) :
    DS w X gd d W ∧ RepBl W (fun b => b = wr.heap.size ∨ b = wr.heap.size + 1) [L] (.slice (some ⟨wr.heap.size + 1, 0, none⟩) 1 1) ∧ ∀ k, (k = wr.heap.size ∨ k = wr.heap.size + 1) → k < W.heap.size ∧ ¬ X k := by
  subst hW hn
  refine ⟨(h.alloc _).alloc _, RepBl.one (RepB.new (L := L) rfl hl) (by simp) (fun k hk => by rw [hk]; simp), fun k hk => ⟨by rcases hk with hk | hk <;> (rw [hk]; simp <;> omega), fun hx => by
    have := h.lt k hx
    omega⟩⟩

/-- .. of two. -/
theorem DS.two {w wr : World} {X : Nat → Prop} {gd : Nat} {d : Dk} (h : DS w X gd d wr) (L1 L2 : List UInt8) (n1 n2 : Nat) (hn1 : n1 = L1.length) (hn2 : n2 = L2.length) (hl1 : L1.length ≤ 9223372036854775807) (hl2 : L2.length ≤ 9223372036854775807) (fr1 fr2 : Nat × Nat) (t1 t2 t3 : TypeId) {W : World}
    (hW : W = ((wr.alloc (.cells (L1.map byteV).toArray t1 fr1)).alloc (.cells (L2.map byteV).toArray t2 fr2)).alloc (.cells #[.slice (some ⟨wr.heap.size, 0, none⟩) n1 n1, .slice (some ⟨wr.heap.size + 1, 0, none⟩) n2 n2] t3)) :
    DS w X gd d W ∧ RepBl W (fun b => (b = wr.heap.size ∨ b = wr.heap.size + 1) ∨ b = wr.heap.size + 1 + 1) [L1, L2] (.slice (some ⟨wr.heap.size + 1 + 1, 0, none⟩) 2 2) ∧ ∀ k, ((k = wr.heap.size ∨ k = wr.heap.size + 1) ∨ k = wr.heap.size + 1 + 1) → k < W.heap.size ∧ ¬ X k := by
  subst hW hn1 hn2
  refine ⟨((h.alloc _).alloc _).alloc _, ?_, fun k hk => ⟨by rcases hk with (hk | hk) | hk <;> (rw [hk]; simp <;> omega), fun hx => by
    have := h.lt k hx
    omega⟩⟩
  refine RepBl.new (w := (wr.alloc (.cells (L1.map byteV).toArray t1 fr1)).alloc (.cells (L2.map byteV).toArray t2 fr2)) (ls := [L1, L2]) (us := [.slice (some ⟨wr.heap.size, 0, none⟩) L1.length L1.length, .slice (some ⟨wr.heap.size + 1, 0, none⟩) L2.length L2.length]) (by simp) rfl (by simp) (fun k hk => by rcases hk with hk | hk <;> (rw [hk]; simp <;> omega)) fun i h1 h2 => ?_
  match i, h1 with
  | 0, _ => exact (RepB.new (w := wr) (L := L1) (t := t1) (fr := fr1) rfl hl1).same (fun k hk => .inl hk) fun k hk => Below.heap_alloc _ _ _ (by rw [hk]; simp)
  | 1, _ => exact (RepB.new (w := wr.alloc (.cells (L1.map byteV).toArray t1 fr1)) (L := L2) (t := t2) (fr := fr2) (by simp) hl2).same (fun k hk => .inr hk) fun _ _ => rfl

theorem DS.names {w wr : World} {X : Nat → Prop} {gd : Nat} {d : Dk} (h : DS w X gd d wr) (ls : List ByteArray) (n : Nat) (hn : n = ls.length) (hl : ls.length ≤ 9223372036854775807) (t : TypeId) {W : World} (hW : W = wr.alloc (.cells (ls.map Value.string).toArray t)) :
    DS w X gd d W ∧ RepSl W (fun b => b = wr.heap.size) ls (.slice (some ⟨wr.heap.size, 0, none⟩) n n) ∧ ∀ k, k = wr.heap.size → k < W.heap.size ∧ ¬ X k := by
  subst hW
  exact ⟨h.alloc _, RepSl.new rfl hn hl, fun k hk => ⟨by rw [hk]; simp, fun hx => by have := h.lt k hx; omega⟩⟩

theorem DS.ints {w wr : World} {X : Nat → Prop} {gd : Nat} {d : Dk} (h : DS w X gd d wr) (ls : List Int) (n : Nat) (hn : n = ls.length) (hl : ls.length ≤ 9223372036854775807) (hb : ∀ i ∈ ls, -9223372036854775808 ≤ i ∧ i ≤ 9223372036854775807) (t : TypeId) {W : World} (hW : W = wr.alloc (.cells (ls.map (Value.int .i64)).toArray t)) :
    DS w X gd d W ∧ RepI W (fun b => b = wr.heap.size) ls (.slice (some ⟨wr.heap.size, 0, none⟩) n n) ∧ ∀ k, k = wr.heap.size → k < W.heap.size ∧ ¬ X k := by
  subst hW
  exact ⟨h.alloc _, RepI.new rfl hn hl hb, fun k hk => ⟨by rw [hk]; simp, fun hx => by have := h.lt k hx; omega⟩⟩

theorem x1_used : D.used x1.fs = 0 := rfl

end Go.Proofs.YtgakcaobalfpjaaGreatDoor.M

/- Part: PHard5. -/
namespace Go.Proofs.YtgakcaobalfpjaaGreatDoor.M
open Go.RowKit Go.Maps
open D (Fl Dk)

theorem DS.tab {w wr : World} {X : Nat → Prop} {gd : Nat} {d : Dk} (h : DS w X gd d wr) (hT : Hid (Tab w)) : Hid (Tab wr) := Lib.hid (hT.out.next h.below)

/-- What a call leaves, with what was done ahead of it. -/
theorem DPost.after {w : World} {X X1 : Nat → Prop} {gd : Nat} {wr w1 : World} {r : Int × Dk} {e : Ending} {w' : World} (ho : Only X wr w1) (hX : ∀ k, X1 k → X k ∨ wr.heap.size ≤ k) (hp : DPost w X1 gd w1 r e w') : DPost w X gd wr r e w' := by
  obtain ⟨he, h1, X', h2, h3⟩ := hp
  refine ⟨he, ⟨h1.os.trans ho.os, h1.tape.trans ho.tape, h1.output.trans ho.output, Nat.le_trans ho.size h1.size, fun k hk hn => ?_⟩, X', fun k hk => ?_, h3⟩
  · rw [h1.block k (Nat.lt_of_lt_of_le hk ho.size) fun hx => by
      rcases hX k hx with h | h
      · exact hn h
      · omega]
    exact ho.block k hk hn
  · rcases h2 k hk with h | h
    · exact hX k h
    · exact .inr (Nat.le_trans ho.size h)

theorem Only.next {X : Nat → Prop} {w w1 w2 : World} (h : Only X w w1) (g : Below w1.heap.size w1 w2) : Only X w w2 :=
  ⟨g.os.trans h.os, g.tape.trans h.tape, g.output.trans h.output, Nat.le_trans h.size g.size, fun k hk hn => (g.block k (Nat.lt_of_lt_of_le hk h.size)).trans (h.block k hk hn)⟩

theorem Only.thn {X X1 : Nat → Prop} {w w1 w2 : World} (h : Only X w w1) (hX : ∀ k, X1 k → X k ∨ w.heap.size ≤ k) (g : Only X1 w1 w2) : Only X w w2 :=
  ⟨g.os.trans h.os, g.tape.trans h.tape, g.output.trans h.output, Nat.le_trans h.size g.size, fun k hk hn => (g.block k (Nat.lt_of_lt_of_le hk h.size) fun hx => by
    rcases hX k hx with h | h
    · exact hn h
    · omega).trans (h.block k hk hn)⟩

/-- Bytes of a row of its own, told to a call. -/
theorem DS.told {w wr : World} {X : Nat → Prop} {gd : Nat} {d : Dk} (h : DS w X gd d wr) {L : List UInt8} {v : Value} (hv : RepB wr (fun k => k < wr.heap.size ∧ ¬ X k) L v) (t : TypeId) {W : World} (hW : W = wr.alloc (.cells #[v] t)) :
    DS w X gd d W ∧ RepBl W (fun b => (b < wr.heap.size ∧ ¬ X b) ∨ b = wr.heap.size) [L] (.slice (some ⟨wr.heap.size, 0, none⟩) 1 1) ∧ ∀ k, ((k < wr.heap.size ∧ ¬ X k) ∨ k = wr.heap.size) → k < W.heap.size ∧ ¬ X k := by
  subst hW
  refine ⟨h.alloc _, RepBl.one hv rfl (fun k hk => hk.1), fun k hk => ⟨by rcases hk with hk | hk <;> (simp; omega), fun hx => by
    have := h.lt k hx
    rcases hk with hk | hk
    · exact hk.2 hx
    · omega⟩⟩

theorem saveF_well {d : Dk} (h : Well d) (s : ByteArray) (b : List UInt8) : Well (saveF d s b).2 ∧ D.used (saveF d s b).2.fs ≤ D.used d.fs + b.length := by
  have h1 : Well (if D.isThere d.fs s then D.remove d [s] else (0, d)).2 ∧ D.used (if D.isThere d.fs s then D.remove d [s] else (0, d)).2.fs ≤ D.used d.fs := by
    split
    · exact remove_well h [s]
    · exact ⟨h, Nat.le_refl _⟩
  unfold saveF
  simp only
  obtain ⟨r, hr⟩ : ∃ r, r = (if D.isThere d.fs s then D.remove d [s] else (0, d)) := ⟨_, rfl⟩
  rw [← hr] at h1 ⊢
  split
  · exact ⟨h1.1, by omega⟩
  · have h2 := append_well h1.1 s [b]
    have e : [b].flatten.length = b.length := by simp
    rw [e] at h2
    split
    · exact ⟨h2.1, by omega⟩
    · have h3 := sync_well h2.1 [s]
      exact ⟨h3.1, by omega⟩

set_option maxRecDepth 20000 in
set_option maxHeartbeats 3200000 in
theorem write_any (d : Dk) (X : Nat → Prop) (gd : Nat) (nm : ByteArray) (c t v : Nat) (w wr : World) (hds : DS w X gd d wr) (hn : nm.size ≤ 9223372036854775807) (hc : c ≤ 4611686018427387904) (ht : t < 4611686018427387904) (hv : v ≤ 4611686018427387904) (hu : D.used d.fs ≤ 1000000000) (hT : Hid (Tab w)) :
    Calls Tryz.prog 38 #[.pointer (some ⟨gd, 0, none⟩), .string nm, .agg #[.int .i64 (c : Int), .int .i64 (t : Int), .int .i64 ((v : Int) - 1)]] wr (DPost w X gd wr (saveF d nm (slotForm c ((t : Int), (v : Int) - 1)))) := by
  obtain ⟨W, hW⟩ : ∃ W, W = wr.alloc (.cells #[.int .i64 (c : Int), .int .i64 (t : Int), .int .i64 ((v : Int) - 1)] 87) := ⟨_, rfl⟩
  have HBW : Hid (Below wr.heap.size wr W) := Lib.hid (by rw [hW]; exact below_alloc _ _)
  have HDW : Hid (DS w X gd d W) := Lib.hid (by rw [hW]; exact hds.alloc _)
  have hbox : W.heap[wr.heap.size]? = some (.cells #[.int .i64 (c : Int), .int .i64 (t : Int), .int .i64 ((v : Int) - 1)] 87) := by rw [hW]; exact heap_new _ _ _ rfl
  have HBOX := Lib.hid hbox
  have HXX : Hid (¬ X wr.heap.size) := Lib.hid fun h => by have := hds.lt _ h; omega
  have HW := Lib.hid hW
  have HWE : Hid (Well d) := Lib.hid hds.well
  obtain ⟨S, hS⟩ : ∃ S, S = slotForm c ((t : Int), (v : Int) - 1) := ⟨_, rfl⟩
  rw [← hS]
  have HS := Lib.hid hS
  have HSL : Hid (S.length ≤ 31) := Lib.hid (by rw [hS]; exact slotForm_le _ _)
  clear hW hbox hds hS
  go_enter Tryz.func38, Tryz.ntmps38
  go_wp2_with fail
  rw [← HW.out]
  refine (PRead_any d X gd nm W HDW.out.dsk HWE.out.1.2.1 hn (by omega)).mono ?_
  rintro e w1 ⟨u, rfl, hown⟩
  have HD1 : Hid (DS w X gd d w1) := Lib.hid (HDW.out.next hown.1)
  have HO1 : Hid (Only X wr w1) := Lib.hid (Only.of_below (HBW.out.trans (hown.1.mono HBW.out.size)))
  have HX1 := Lib.hid (old_below HBOX.out hown.1)
  clear hown
  cases hth : D.isThere d.fs nm with
  | false =>
    obtain ⟨d1, hd1⟩ : ∃ d1, d1 = d := ⟨_, rfl⟩
    obtain ⟨X1, hX1⟩ : ∃ X1, X1 = X := ⟨_, rfl⟩
    obtain ⟨w2, hw2⟩ : ∃ w2, w2 = w1 := ⟨_, rfl⟩
    have HSV : Hid (saveF d nm S = if (D.append d1 nm [S]).1 ≠ 0 then D.append d1 nm [S] else D.sync (D.append d1 nm [S]).2 [nm]) := Lib.hid (by
      unfold saveF
      rw [hth, hd1]
      rfl)
    have HD2 : Hid (DS w X1 gd d1 w2) := by rw [hd1, hX1, hw2]; exact HD1
    have HO2 : Hid (Only X wr w2) := by rw [hw2]; exact HO1
    have HXS : Hid (∀ k, X1 k → X k ∨ wr.heap.size ≤ k) := Lib.hid fun k hk => .inl (by rw [← hX1]; exact hk)
    have HX2 : Hid (w2.heap[wr.heap.size]? = some (.cells #[.int .i64 (c : Int), .int .i64 (t : Int), .int .i64 ((v : Int) - 1)] 87)) := by rw [hw2]; exact HX1
    have HU2 : Hid (D.used d1.fs ≤ 1000000000) := Lib.hid (by rw [hd1]; exact hu)
    rw [← hw2]
    clear hth hd1 hX1 hw2
    obtain ⟨c0, c1, c2, f0, f1, f2, hz⟩ := block3 HX2.out
    go_wp2_with fail
    refine (bytes_any c t v w2 hc ht hv (HD2.out.tab hT)).mono ?_
    rintro e w3 ⟨u3, rfl, hown3⟩
    rw [← HS.out] at hown3
    have HD3 : Hid (DS w X1 gd d1 w3) := Lib.hid (HD2.out.next hown3.1)
    have HO3 : Hid (Only X wr w3) := Lib.hid (HO2.out.next hown3.1)
    obtain ⟨ua, uc, rfl⟩ := hown3.slice
    have HU3 : Hid (RepB w3 (fun k => k < w3.heap.size ∧ ¬ X1 k) S (.slice ua S.length uc)) := Lib.hid (hown3.rep.weak fun k hk => ⟨hk.2, fun hx => by
      have := HD2.out.lt k hx
      omega⟩)
    clear hown3 c0 c1 c2 f0 f1 f2 hz
    go_wp2_with fail
    obtain ⟨a1, a2, a3⟩ := HD3.out.told HU3.out 35 rfl
    refine (DAppend a1 nm [S] _ _ hn a2 a3 (by have h1 := HU2.out; have h2 := HSL.out; simp; omega)).mono ?_
    rintro e w4 ⟨rfl, ho4, X4, hx4, h4⟩
    have HXS4 : Hid (∀ k, X4 k → X k ∨ wr.heap.size ≤ k) := Lib.hid fun k hk => by
      rcases hx4 k hk with h | h
      · exact HXS.out k h
      · have h5 := HO3.out.size
        simp only [World.size_alloc] at h
        exact .inr (by omega)
    have HO4 : Hid (Only X wr w4) := Lib.hid ((HO3.out.next (below_alloc _ _)).thn HXS.out ho4)
    obtain ⟨r, hr⟩ : ∃ r, r = D.append d1 nm [S] := ⟨_, rfl⟩
    rw [← hr] at HSV h4 ⊢
    clear a1 a2 a3 ho4 hx4 hr
    obtain ⟨r1, r2⟩ := r
    have HD4 := Lib.hid h4
    simp only at HSV
    clear h4
    by_cases hr0 : r1 = 0
    · subst hr0
      have HSV2 : Hid (saveF d nm S = D.sync r2 [nm]) := Lib.hid (by rw [HSV.out, if_neg (by simp)])
      clear HSV
      go_wp2_with fail
      obtain ⟨a1, a2, a3⟩ := HD4.out.names [nm] 1 rfl (by simp) 9 rfl
      refine (DSync a1 [nm] _ _ (by simpa using hn) a2 a3).mono ?_
      intro e w5 hp5
      rw [← HSV2.out] at hp5
      have HP5 := Lib.hid (DPost.after (HO4.out.next (below_alloc _ _)) HXS4.out hp5)
      have he := HP5.out.1
      subst he
      clear hp5 a1 a2 a3
      go_wp2_with fail
      go_ret
      exact HP5.out
    · have q1 : (r1 != 0) = true := by simpa using hr0
      have HSV2 : Hid (saveF d nm S = (r1, r2)) := Lib.hid (by rw [HSV.out, if_pos hr0])
      clear HSV hr0
      go_wp2_with fail
      go_ret
      rw [HSV2.out]
      exact ⟨rfl, HO4.out, X4, HXS4.out, HD4.out⟩
  | true =>
    go_wp2_with fail
    obtain ⟨a1, a2, a3⟩ := HD1.out.names [nm] 1 rfl (by simp) 9 rfl
    refine (DRemove a1 [nm] _ _ (by simpa using hn) a2 a3).mono ?_
    rintro e w2 ⟨rfl, ho2, X1, hx1, h2⟩
    have HXS : Hid (∀ k, X1 k → X k ∨ wr.heap.size ≤ k) := Lib.hid fun k hk => by
      rcases hx1 k hk with h | h
      · exact .inl h
      · have h5 := HO1.out.size
        simp only [World.size_alloc] at h
        exact .inr (by omega)
    have HO2 : Hid (Only X wr w2) := Lib.hid ((HO1.out.next (below_alloc _ _)).thn (fun k hk => .inl hk) ho2)
    have hsz := HX1.out
    have HX2 : Hid (w2.heap[wr.heap.size]? = some (.cells #[.int .i64 (c : Int), .int .i64 (t : Int), .int .i64 ((v : Int) - 1)] 87)) := Lib.hid (by
      have h5 := lt_of_heap HX1.out
      rw [ho2.block _ (by simp; omega) HXX.out]
      exact old_alloc HX1.out)
    have hwl := remove_well HWE.out [nm]
    obtain ⟨r, hr⟩ : ∃ r, r = D.remove d [nm] := ⟨_, rfl⟩
    rw [← hr] at h2 hwl ⊢
    have HSV0 : Hid (saveF d nm S = if r.1 ≠ 0 then r else if (D.append r.2 nm [S]).1 ≠ 0 then D.append r.2 nm [S] else D.sync (D.append r.2 nm [S]).2 [nm]) := Lib.hid (by
      unfold saveF
      rw [hth, hr]
      rfl)
    clear hr a1 a2 a3 ho2 hx1 hsz hth
    obtain ⟨r1, d1⟩ := r
    have HD2 := Lib.hid h2
    have HU2 : Hid (D.used d1.fs ≤ 1000000000) := Lib.hid (Nat.le_trans hwl.2 hu)
    clear h2 hwl
    simp only at HSV0
    by_cases hr0 : r1 = 0
    · subst hr0
      have HSV : Hid (saveF d nm S = if (D.append d1 nm [S]).1 ≠ 0 then D.append d1 nm [S] else D.sync (D.append d1 nm [S]).2 [nm]) := Lib.hid (by rw [HSV0.out, if_neg (by simp)])
      clear HSV0
      simp only
      obtain ⟨c0, c1, c2, f0, f1, f2, hz⟩ := block3 HX2.out
      go_wp2_with fail
      refine (bytes_any c t v w2 hc ht hv (HD2.out.tab hT)).mono ?_
      rintro e w3 ⟨u3, rfl, hown3⟩
      rw [← HS.out] at hown3
      have HD3 : Hid (DS w X1 gd d1 w3) := Lib.hid (HD2.out.next hown3.1)
      have HO3 : Hid (Only X wr w3) := Lib.hid (HO2.out.next hown3.1)
      obtain ⟨ua, uc, rfl⟩ := hown3.slice
      have HU3 : Hid (RepB w3 (fun k => k < w3.heap.size ∧ ¬ X1 k) S (.slice ua S.length uc)) := Lib.hid (hown3.rep.weak fun k hk => ⟨hk.2, fun hx => by
        have := HD2.out.lt k hx
        omega⟩)
      clear hown3 c0 c1 c2 f0 f1 f2 hz
      go_wp2_with fail
      obtain ⟨a1, a2, a3⟩ := HD3.out.told HU3.out 35 rfl
      refine (DAppend a1 nm [S] _ _ hn a2 a3 (by have h1 := HU2.out; have h2 := HSL.out; simp; omega)).mono ?_
      rintro e w4 ⟨rfl, ho4, X4, hx4, h4⟩
      have HXS4 : Hid (∀ k, X4 k → X k ∨ wr.heap.size ≤ k) := Lib.hid fun k hk => by
        rcases hx4 k hk with h | h
        · exact HXS.out k h
        · have h5 := HO3.out.size
          simp only [World.size_alloc] at h
          exact .inr (by omega)
      have HO4 : Hid (Only X wr w4) := Lib.hid ((HO3.out.next (below_alloc _ _)).thn HXS.out ho4)
      obtain ⟨r, hr⟩ : ∃ r, r = D.append d1 nm [S] := ⟨_, rfl⟩
      rw [← hr] at HSV h4 ⊢
      clear a1 a2 a3 ho4 hx4 hr
      obtain ⟨r1, r2⟩ := r
      have HD4 := Lib.hid h4
      simp only at HSV
      clear h4
      by_cases hr0 : r1 = 0
      · subst hr0
        have HSV2 : Hid (saveF d nm S = D.sync r2 [nm]) := Lib.hid (by rw [HSV.out, if_neg (by simp)])
        clear HSV
        go_wp2_with fail
        obtain ⟨a1, a2, a3⟩ := HD4.out.names [nm] 1 rfl (by simp) 9 rfl
        refine (DSync a1 [nm] _ _ (by simpa using hn) a2 a3).mono ?_
        intro e w5 hp5
        rw [← HSV2.out] at hp5
        have HP5 := Lib.hid (DPost.after (HO4.out.next (below_alloc _ _)) HXS4.out hp5)
        have he := HP5.out.1
        subst he
        clear hp5 a1 a2 a3
        go_wp2_with fail
        go_ret
        exact HP5.out
      · have q1 : (r1 != 0) = true := by simpa using hr0
        have HSV2 : Hid (saveF d nm S = (r1, r2)) := Lib.hid (by rw [HSV.out, if_pos hr0])
        clear HSV hr0
        go_wp2_with fail
        go_ret
        rw [HSV2.out]
        exact ⟨rfl, HO4.out, X4, HXS4.out, HD4.out⟩
    · have q1 : (r1 != 0) = true := by simpa using hr0
      have HSV2 : Hid (saveF d nm S = (r1, d1)) := Lib.hid (by rw [HSV0.out, if_pos hr0])
      clear HSV0 hr0
      go_wp2_with fail
      go_ret
      rw [HSV2.out]
      exact ⟨rfl, HO2.out, X1, HXS.out, HD2.out⟩
end Go.Proofs.YtgakcaobalfpjaaGreatDoor.M

/- The law ShelfNewest. -/
import Derived.Test.YtbcpcopapbgcdaaGreatDoorSW31
import Derived.Test.YtbcpcopapbgcdaaGreatDoorSW32
import Derived.Test.YtbcpcopapbgcdaaGreatDoorSW45
import Derived.Test.YtbcpcopapbgcdaaGreatDoorSW46
import Derived.Test.YtbcpcopapbgcdaaGreatDoorSW23
namespace Go.Proofs.YtbcpcopapbgcdaaGreatDoor.M
open Go.RowKit Go.Maps
open D (Fl Dk)

/-- Both disks, the same. -/
structure Nw1 (w0 : World) (gd gr : Nat) (k : Nat) (d : Dk) (X Y : Nat → Prop) (wr : World) : Prop where
  p : DS w0 X gd d wr
  q : QS w0 Y gr d wr
  dis : ∀ i, X i → ¬ Y i
  room : d.room = 100000
  ends : d.ends = false
  used : D.used d.fs ≤ 1000 * k
  len : d.fs.length ≤ k

/-- The same bytes behind both disks' files. -/
theorem Nw1.step {w0 wr wp w2 wq w4 : World} {gd gr k : Nat} {d : Dk} {X Y : Nat → Prop} (h : Nw1 w0 gd gr k d X Y wr) {nm : ByteArray} {B : List UInt8} (hB : B.length ≤ 1000) (hp : Below wr.heap.size wr wp) {e e' : Ending} (h2 : DPost w0 X gd wp (D.append d nm [B]) e w2) (hq : Below w2.heap.size w2 wq)
    (h4 : QPost w0 Y gr wq (D.append d nm [B]) e' w4) : Only (fun i => X i ∨ Y i) wr w4 ∧ ∃ d' X' Y', Nw1 w0 gd gr (k + 1) d' X' Y' w4 := by
  obtain ⟨-, ho2, X', hx', hd⟩ := h2
  obtain ⟨-, ho4, Y', hy', hq'⟩ := h4
  have hzp := hp.size
  have hz2 := ho2.size
  have hzq := hq.size
  have hz4 := ho4.size
  have hXl := h.p.lt
  have hYl := h.q.lt
  have hX' := hd.lt
  refine ⟨((Only.of_below hp).thn (X := fun i => X i ∨ Y i) (fun i hi => .inl hi) ((ho2.next hq).mono fun i hi => .inl hi)).thn (fun i hi => .inl hi) (ho4.mono fun i hi => .inr hi), (D.append d nm [B]).2, X', Y', (hd.next hq).only ho4 h.q.own fun i hi hx => ?_, hq', fun i hx hy => ?_, (append_keeps d nm [B]).1.trans h.room, (append_keeps d nm [B]).2.1.trans h.ends, ?_, ?_⟩
  · rcases hx' i hx with h1 | h1
    · exact h.dis i h1 hi
    · have := hYl i hi; omega
  · rcases hy' i hy with h1 | h1
    · rcases hx' i hx with h3 | h3
      · exact h.dis i h3 h1
      · have := hYl i h1; omega
    · have := hX' i hx; omega
  · have h1 := (append_well h.p.well nm [B]).2
    have h3 := h.used
    simp only [List.flatten_cons, List.flatten_nil, List.append_nil] at h1
    omega
  · have h1 := (append_keeps d nm [B]).2.2
    have h3 := h.len
    omega

/-- One slice in a block of its own, told to a call. -/
theorem one_told {w wr w' : World} {F : Nat → Prop} {B : List UInt8} {v : Value} {g : Nat} {t : TypeId} (hv : RepB wr F B v) (hF : ∀ i, F i → i < w.heap.size) (hw : ∀ i, i < w.heap.size → w'.heap[i]? = wr.heap[i]?) (hg : w'.heap[g]? = some (.cells #[v] t)) : RepBl w' (fun i => i < w.heap.size ∨ i = g) [B] (.slice (some ⟨g, 0, none⟩) 1 1) :=
  .inr ⟨g, 0, 1, rfl, .inr rfl, Nat.le_refl _, by omega, fun i hi => by
    obtain rfl : i = 0 := by simpa using hi
    exact ⟨v, cell_of_row w' g 0 _ t _ hg, hv.same (fun j hj => .inl (hF j hj)) fun j hj => hw j (hF j hj)⟩⟩

theorem newestS_zero0 {fs : List Fl} (h : (newestS fs).idx = 0) : newestS fs = Sn.zero := by
  have h1 := newestS_none.1 h
  unfold newestS
  rw [h1]
  rfl

theorem newestS_idx (fs : List Fl) : 0 ≤ (newestS fs).idx ∧ (newestS fs).idx < 10000000000 := by
  cases h : newestF fs with
  | none => rw [newestS_none.2 h]; omega
  | some x =>
    have h1 := okSn_iff.1 (newest_ok h)
    simp only at h1
    unfold newestS
    rw [h]
    simp only [Option.getD_some]
    omega

theorem mod9_at (r : Int) : ∃ q : Nat, (r.tmod 9 + 9).tmod 9 = (q : Int) ∧ (q : Int) < 9 ∧ -9 < r.tmod 9 ∧ r.tmod 9 < 9 := by
  have a1 := Int.tmod_lt_of_pos r (show (0 : Int) < 9 by omega)
  have a2 : -9 < r.tmod 9 := Int.lt_tmod_of_pos r (by omega)
  generalize r.tmod 9 = x at *
  have b1 := Int.tmod_lt_of_pos (x + 9) (show (0 : Int) < 9 by omega)
  have b2 := Int.tmod_nonneg 9 (show 0 ≤ x + 9 by omega)
  exact ⟨((x + 9).tmod 9).toNat, (Int.toNat_of_nonneg b2).symm, by omega, a2, a1⟩

theorem snParse_nz {b : List UInt8} {c : Int} (h : snParse b = .error c) : c ≠ 0 := by
  unfold snParse at h
  split at h
  · cases h; decide
  · split at h
    · cases h; decide
    · unfold snTake at h
      split at h
      · rename_i e he
        cases h
        have := snParts_fair he
        simpa using this
      · cases h; decide
      · split at h
        · cases h
        · cases h; decide

/-- What Parse says of a file. -/
theorem ans_cases (f : Fl) : (ansE (snParse f.b) ≠ 0 ∧ keptF f = false) ∨ (ansE (snParse f.b) = 0 ∧ ∃ n : Nat, (ansS (snParse f.b)).idx = (n : Int) ∧ n < 10000000000 ∧ keptF f = (f.nm.toList == (snName (n : Int)).toList)) := by
  unfold keptF
  cases h : snParse f.b with
  | error c => exact .inl ⟨snParse_nz h, rfl⟩
  | ok x =>
    have h1 := okSn_iff.1 (snParse_inv h).2
    simp only at h1
    refine .inr ⟨rfl, x.idx.toNat, ?_, by omega, ?_⟩
    · simp only [ansS]; omega
    · rw [show ((x.idx.toNat : Nat) : Int) = x.idx by omega]

set_option maxRecDepth 20000 in
set_option maxHeartbeats 12800000 in
theorem ShelfNewest_any (names : List ByteArray) (bs : List (List UInt8)) (up : Int) (F : Nat → Prop) (v0 v1 : Value) (w : World) (hv0 : RepSl w F names v0) (hv1 : RepBl w F bs v1) (hF : ∀ k, F k → k < w.heap.size) (hns : ∀ s ∈ names, s.size ≤ 9223372036854775807) (hup : -9223372036854775808 ≤ up ∧ up ≤ 9223372036854775807) (hT : Hid (Tab w)) (hP : Hid (Pow10 w)) :
    Calls Tryz.prog 8 #[v0, v1, .int .i64 up] w fun e w' => e = .returned (.bool true) ∧ Below w.heap.size w w' := by
  obtain ⟨na, nc, rfl, hnl⟩ := hv0.slice
  obtain ⟨ba, bc, rfl, hbl⟩ := hv1.slice
  have HV0 := Lib.hid hv0
  have HV1 := Lib.hid hv1
  have HF := Lib.hid hF
  have HNS := Lib.hid hns
  have HUP := Lib.hid hup
  have HA : Hid (∀ wx : World, Below w.heap.size w wx → Calls Tryz.prog 22 #[] wx fun e w' => e = .returned (.bool true) ∧ Below w.heap.size w w') := Lib.hid fun wx hb =>
    (awake6_any wx (Lib.hid (hT.out.next hb)) (Lib.hid (hP.out.next hb))).mono fun e w' h => ⟨h.1, hb.trans (h.2.mono hb.size)⟩
  clear hv0 hv1 hF hns hup
  by_cases hbig : 8 < names.length ∨ 8 < bs.length
  · rcases (show 8 < (names.length : Int) ∨ (¬ 8 < (names.length : Int) ∧ 8 < (bs.length : Int)) by omega) with q | ⟨q, q2⟩
    all_goals
      clear hbig
      go_enter Tryz.func8, Tryz.ntmps8
      go_wp2_with fail
      refine (HA.out w (Below.refl _ _)).mono ?_
      rintro e w0 ⟨rfl, hb0⟩
      go_wp2_with fail
      refine (HA.out w0 hb0).mono ?_
      rintro e w1 ⟨rfl, hb1⟩
      go_wp2_with fail
      go_ret
      exact ⟨rfl, hb1⟩
  · have q1 : decide ((8 : Int) < (names.length : Int)) = false := by simp; omega
    have q2 : decide ((8 : Int) < (bs.length : Int)) = false := by simp; omega
    have H8 : Hid (names.length ≤ 8 ∧ bs.length ≤ 8) := Lib.hid (by omega)
    clear hbig
    go_enter Tryz.func8, Tryz.ntmps8
    go_wp2_with fail
    refine (awake6_any w hT hP).mono ?_
    rintro e w0 ⟨rfl, hb0⟩
    have HB0 := Lib.hid hb0
    have HT0 : Hid (Tab w0) := Lib.hid (hT.out.next hb0)
    have HP0 : Hid (Pow10 w0) := Lib.hid (hP.out.next hb0)
    clear hb0
    go_wp2_with fail
    refine (newDisk_any 100000 w0 (by omega) (by omega)).mono ?_
    rintro e w1 ⟨gd, X1, rfl, h1⟩
    have H1 := Lib.hid h1
    clear h1
    go_wp2_with fail
    obtain ⟨gr, hgr⟩ : ∃ g, g = w1.heap.size := ⟨_, rfl⟩
    obtain ⟨W, hW⟩ : ∃ W, W = w1.alloc (.cells #[.int .i64 100000, .slice none 0 0, .bool false, .int .i64 0] 69) := ⟨_, rfl⟩
    have HST : Hid (Nw1 w0 gd gr 0 (fresh 100000) X1 (fun k => k = gr) W) := Lib.hid ⟨by rw [hW]; exact H1.out.next (below_alloc _ _), by rw [hW]; exact newQ w0 w1 100000 gr H1.out.below hgr (by omega) (by omega), fun i hi hg => by have := H1.out.lt i hi; omega, rfl, rfl, by decide, by decide⟩
    rw [← hW, ← hgr]
    clear hW hgr
    go_loopw [10] (fun i wr => ∃ (k : Nat) (d : Dk) (X Y : Nat → Prop), k ≤ names.length ∧ k ≤ bs.length ∧ i = .int .i64 (k : Int) ∧ Hid (Nw1 w0 gd gr k d X Y wr)) (fun i _ => names.length - (intOf i).toNat)
    case atStart => exact ⟨0, _, _, _, Nat.zero_le _, Nat.zero_le _, rfl, HST⟩
    case round =>
      obtain ⟨k, d, X, Y, hk1, hk2, rfl, HN⟩ := hrel
      have HBW : Hid (Below w.heap.size w wr) := Lib.hid (HB0.out.trans (HN.out.p.below.mono HB0.out.size))
      by_cases hlt : k < names.length
      · have hkk : (k : Int) < (names.length : Int) := by omega
        by_cases hlt2 : k < bs.length
        · have hkk2 : (k : Int) < (bs.length : Int) := by omega
          obtain ⟨ga, goff, rfl, hga, hgc⟩ := (HV0.out.same (w' := wr) (fun _ h => h) fun j hj => HBW.out.block j (HF.out j hj)).elem k hlt
          obtain ⟨bb, boff, bu, rfl, hbF, hbc, hbr⟩ := (HV1.out.same (w' := wr) (fun _ h => h) fun j hj => HBW.out.block j (HF.out j hj)).elem k hlt2
          obtain ⟨bua, buc, rfl, -⟩ := hbr.slice
          have HGA := Lib.hid (HF.out ga hga)
          have HBB := Lib.hid (HF.out bb hbF)
          obtain ⟨nm, hnm⟩ : ∃ nm, nm = names[k] := ⟨_, rfl⟩
          obtain ⟨B, hB⟩ : ∃ B, B = bs[k] := ⟨_, rfl⟩
          have HNZ : Hid (nm.size ≤ 9223372036854775807) := Lib.hid (by rw [hnm]; exact HNS.out _ (List.getElem_mem hlt))
          rw [← hnm] at hgc
          rw [← hB] at hbr hbc
          have HBR := Lib.hid hbr
          have hgz : ga < wr.heap.size := Nat.lt_of_lt_of_le HGA.out HBW.out.size
          have hbz : bb < wr.heap.size := Nat.lt_of_lt_of_le HBB.out HBW.out.size
          clear hnm hB hbr hga hbF
          by_cases h1000 : 1000 < B.length
          · have q3 : (1000 : Int) < (B.length : Int) := by omega
            go_wp2_with fail
            go_ret
            exact ⟨rfl, HBW.out⟩
          · have q3 : decide ((1000 : Int) < (B.length : Int)) = false := by simp; omega
            have HBL : Hid (B.length ≤ 1000) := Lib.hid (by omega)
            clear h1000
            go_wp2_with fail
            have cell : ∀ {g o : Nat} {u : Value}, g < wr.heap.size → ¬ X g → ¬ Y g → wr.cell? ⟨g, o, none⟩ = some u → ∀ w', Only (fun i => X i ∨ Y i) wr w' → w'.cell? ⟨g, o, none⟩ = some u := fun {g o u} hg hx hy h w' hw' => (World.cell?_of_block (a := ⟨g, o, none⟩) (hw'.block g hg (by rintro (h | h); exact hx h; exact hy h))).trans h
            have hlow : ∀ i, i < w.heap.size → ¬ X i ∧ ¬ Y i := fun i hi => ⟨fun h => by have := HN.out.p.own i h; have := HB0.out.size; omega, fun h => by have := HN.out.q.own i h; have := HB0.out.size; omega⟩
            have r0 := cell hgz (hlow _ HGA.out).1 (hlow _ HGA.out).2 hgc
            have r1 := cell hbz (hlow _ HBB.out).1 (hlow _ HBB.out).2 hbc
            have hS : Only (fun i => X i ∨ Y i) wr wr.drew := ⟨rfl, rfl, rfl, Nat.le_refl _, fun _ _ _ => rfl⟩
            have HLOW := Lib.hid hlow
            clear cell hlow hgc hbc
            refine wp_region_held (S := fun w' => Only (fun i => X i ∨ Y i) wr w') (by kernel_rfl) ?_
            have HOT : Hid (∀ (w' : World) (g : Nat) (t : TypeId), (∀ i, i < w.heap.size → w'.heap[i]? = wr.heap[i]?) → w'.heap[g]? = some (.cells #[.slice bua B.length buc] t) → RepBl w' (fun i => i < w.heap.size ∨ i = g) [B] (.slice (some ⟨g, 0, none⟩) 1 1)) := Lib.hid fun w' g t h1 h2 => one_told HBR.out HF.out h1 h2
            have hwz := HBW.out.size
            have HXl := Lib.hid HN.out.p.lt
            have HYl := Lib.hid HN.out.q.lt
            have HU := Lib.hid HN.out.used
            refine H_take (i := 0) (v := ?_) rfl (by as_aux_lemma => kernel_rfl) (by as_aux_lemma => kernel_rfl) (by as_aux_lemma => kernel_rfl) (fun _ _ _ h => h) (by rfl) hS ?_ ?_
            rotate_left
            · intro w' hw'; go_simp; with_reducible rfl
            go_simp
            refine H_take (i := 1) (v := ?_) rfl (by as_aux_lemma => kernel_rfl) (by as_aux_lemma => kernel_rfl) (by as_aux_lemma => kernel_rfl) (fun _ _ _ h => h) (by rfl) hS ?_ ?_
            rotate_left
            · intro w' hw'; go_simp; with_reducible rfl
            go_simp
            refine H_take (i := 2) (v := ?_) rfl (by as_aux_lemma => kernel_rfl) (by as_aux_lemma => kernel_rfl) (by as_aux_lemma => kernel_rfl) (fun _ _ _ h => h) (by rfl) hS ?_ ?_
            rotate_left
            · intro w' hw'; go_simp; with_reducible rfl
            go_simp
            refine H_take (i := 3) (v := ?_) rfl (by as_aux_lemma => kernel_rfl) (by as_aux_lemma => kernel_rfl) (by as_aux_lemma => kernel_rfl) (fun _ _ _ h => h) (by rfl) hS ?_ ?_
            rotate_left
            · intro w' hw'; go_simp; with_reducible rfl
            go_simp
            refine H_take (i := 4) (v := ?_) rfl (by as_aux_lemma => kernel_rfl) (by as_aux_lemma => kernel_rfl) (by as_aux_lemma => kernel_rfl) (fun _ _ _ h => h) (by rfl) hS ?_ ?_
            rotate_left
            · intro w' hw'; go_simp; with_reducible rfl
            go_simp
            refine H_take (i := 5) (v := ?_) rfl (by as_aux_lemma => kernel_rfl) (by as_aux_lemma => kernel_rfl) (by as_aux_lemma => kernel_rfl) (fun _ _ _ h => h) (by rfl) hS ?_ ?_
            rotate_left
            · intro w' hw'; go_simp; with_reducible rfl
            go_simp
            refine H_take (i := 6) (v := ?_) rfl (by as_aux_lemma => kernel_rfl) (by as_aux_lemma => kernel_rfl) (by as_aux_lemma => kernel_rfl) (fun _ _ _ h => h) (by rfl) hS ?_ ?_
            rotate_left
            · intro w' hw'; go_simp; with_reducible rfl
            go_simp
            refine H_take (i := 7) (v := ?_) rfl (by as_aux_lemma => kernel_rfl) (by as_aux_lemma => kernel_rfl) (by as_aux_lemma => kernel_rfl) (fun _ _ _ h => h) (by rfl) hS ?_ ?_
            rotate_left
            · intro w' hw'; go_simp; with_reducible rfl
            go_simp
            refine H_take (i := 8) (v := ?_) rfl (by as_aux_lemma => kernel_rfl) (by as_aux_lemma => kernel_rfl) (by as_aux_lemma => kernel_rfl) (fun _ _ _ h => h) (by rfl) hS ?_ ?_
            rotate_left
            · intro w' hw'; go_simp; with_reducible rfl
            go_simp
            refine H_take (i := 11) (v := ?_) rfl (by as_aux_lemma => kernel_rfl) (by as_aux_lemma => kernel_rfl) (by as_aux_lemma => kernel_rfl) (fun _ _ _ h => h) (by rfl) hS ?_ ?_
            rotate_left
            · intro w' hw'; go_simp; with_reducible rfl
            go_simp
            refine H_take (i := 12) (v := ?_) rfl (by as_aux_lemma => kernel_rfl) (by as_aux_lemma => kernel_rfl) (by as_aux_lemma => kernel_rfl) (fun _ _ _ h => h) (by rfl) hS ?_ ?_
            rotate_left
            · intro w' hw'; go_simp; with_reducible rfl
            go_simp
            refine H_take (i := 13) (v := ?_) rfl (by as_aux_lemma => kernel_rfl) (by as_aux_lemma => kernel_rfl) (by as_aux_lemma => kernel_rfl) (fun _ _ _ h => h) (by rfl) hS ?_ ?_
            rotate_left
            · intro w' hw'; go_simp; with_reducible rfl
            go_simp
            refine H_take (i := 14) (v := ?_) rfl (by as_aux_lemma => kernel_rfl) (by as_aux_lemma => kernel_rfl) (by as_aux_lemma => kernel_rfl) (fun _ _ _ h => h) (by rfl) hS ?_ ?_
            rotate_left
            · intro w' hw'; go_simp; with_reducible rfl
            go_simp
            refine H_take (i := 15) (v := ?_) rfl (by as_aux_lemma => kernel_rfl) (by as_aux_lemma => kernel_rfl) (by as_aux_lemma => kernel_rfl) (fun _ _ _ h => h) (by rfl) hS ?_ ?_
            rotate_left
            · intro w' hw'; go_simp; with_reducible rfl
            go_simp
            refine H_take (i := 16) (v := ?_) rfl (by as_aux_lemma => kernel_rfl) (by as_aux_lemma => kernel_rfl) (by as_aux_lemma => kernel_rfl) (fun _ _ _ h => h) (by rfl) hS ?_ ?_
            rotate_left
            · intro w' hw'; go_simp; with_reducible rfl
            go_simp
            refine H_take (i := 17) (v := ?_) rfl (by as_aux_lemma => kernel_rfl) (by as_aux_lemma => kernel_rfl) (by as_aux_lemma => kernel_rfl) (fun _ _ _ h => h) (by rfl) hS ?_ ?_
            rotate_left
            · intro w' hw'; go_simp; with_reducible rfl
            go_simp
            refine H_take (i := 18) (v := ?_) rfl (by as_aux_lemma => kernel_rfl) (by as_aux_lemma => kernel_rfl) (by as_aux_lemma => kernel_rfl) (fun _ _ _ h => h) (by rfl) hS ?_ ?_
            rotate_left
            · intro w' hw'; go_simp; with_reducible rfl
            go_simp
            refine H_take (i := 19) (v := ?_) rfl (by as_aux_lemma => kernel_rfl) (by as_aux_lemma => kernel_rfl) (by as_aux_lemma => kernel_rfl) (fun _ _ _ h => h) (by rfl) hS ?_ ?_
            rotate_left
            · intro w' hw'; go_simp; with_reducible rfl
            go_simp
            have HTOLD : Hid (∀ (V : World) (g : Nat), Only (fun i => X i ∨ Y i) wr V → V.heap[g]? = some (.cells #[.slice bua B.length buc] 34) → RepBl V (fun i => i < w.heap.size ∨ i = g) [B] (.slice (some ⟨g, 0, none⟩) 1 1)) := Lib.hid fun V g hV hg => HOT.out V g _ (fun i hi => hV.block i (by have := HBW.out.size; omega) (by rintro (h | h); exact (HLOW.out i hi).1 h; exact (HLOW.out i hi).2 h)) hg
            have HLN := Lib.hid (Nat.le_trans HN.out.used (show 1000 * k ≤ 8000 by have := H8.out.1; omega))
            clear hwz
            refine H_both (i := 9) (j := 20) (by as_aux_lemma => kernel_rfl) rfl rfl (by rfl) (by rfl) ?_ ?_
            · go_simp
              obtain ⟨V1, hV1⟩ : ∃ V, V = (wr.alloc (Obj.cells #[.slice bua B.length buc] 34)).drew := ⟨_, rfl⟩
              have hb1 : Below wr.heap.size wr V1 := by rw [hV1]; exact (below_alloc wr _).drew
              have hg1 : V1.heap[wr.heap.size]? = some (.cells #[.slice bua B.length buc] 34) := by rw [hV1]; exact heap_new _ _ _ rfl
              have hz1 : V1.heap.size = wr.heap.size + 1 := by rw [hV1]; simp
              have hS1 : Only (fun i => X i ∨ Y i) wr V1 := (Only.refl (fun i => X i ∨ Y i) wr).next hb1
              obtain ⟨gp, hgp⟩ : ∃ g, g = wr.heap.size := ⟨_, rfl⟩
              rw [← hgp] at hg1
              have HB1 := Lib.hid hb1
              have HG1 := Lib.hid hg1
              have HZ1 := Lib.hid hz1
              have HS1 := Lib.hid hS1
              have Hgp := Lib.hid hgp
              rw [← hV1, ← hgp]
              clear hV1 hb1 hg1 hz1 hgp
              refine ⟨hS1, ?_⟩
              go_simp
              refine H_both (i := 10) (j := 20) (by as_aux_lemma => kernel_rfl) rfl rfl (by rfl) (by rfl) ?_ ?_
              · go_simp
                have HGP : Hid (V1.heap[gp]? = some (.cells #[.slice bua B.length buc] 34)) := HG1
                have HGPZ : Hid (wr.heap.size ≤ gp) := Lib.hid (by have := Hgp.out; omega)
                have HBP : Hid (Below wr.heap.size wr V1) := HB1
                have HPV : Hid (DS w0 X gd d V1) := Lib.hid (HN.out.p.next HB1.out)
                have HSV : Hid (Only (fun i => X i ∨ Y i) wr V1) := HS1
                have HTP := Lib.hid (HTOLD.out V1 gp HSV.out HGP.out)
                have HFP : Hid (∀ i, (i < w.heap.size ∨ i = gp) → i < V1.heap.size ∧ ¬ X i) := Lib.hid (by
                  rintro i (hi | rfl)
                  · exact ⟨Nat.lt_of_lt_of_le hi (Nat.le_trans HBW.out.size HSV.out.size), (HLOW.out i hi).1⟩
                  · exact ⟨lt_of_heap HGP.out, fun h => by have := HXl.out _ h; have := HGPZ.out; omega⟩)
                refine (DAppend HPV.out nm [B] (fun i => i < w.heap.size ∨ i = gp) _ HNZ.out HTP.out HFP.out (by have := HLN.out; have := HBL.out; simp; omega)).mono ?_
                intro e2 w2 hp2
                have HP2 := Lib.hid hp2
                have hS2 : Only (fun i => X i ∨ Y i) wr w2 := HSV.out.thn (fun i hi => .inl hi) (hp2.2.1.mono fun i hi => .inl hi)
                obtain ⟨rfl, -, -⟩ := hp2
                refine ⟨hS2, ?_⟩
                go_simp
                refine H_one (i := 20) (by as_aux_lemma => kernel_rfl) rfl (by rfl) ?_
                go_simp
                obtain ⟨V3, hV3⟩ : ∃ V, V = w2.alloc (Obj.cells #[.slice bua B.length buc] 34) := ⟨_, rfl⟩
                have hb3 : Below w2.heap.size w2 V3 := by rw [hV3]; exact below_alloc w2 _
                have hg3 : V3.heap[w2.heap.size]? = some (.cells #[.slice bua B.length buc] 34) := by rw [hV3]; exact heap_new _ _ _ rfl
                have hz3 : V3.heap.size = w2.heap.size + 1 := by rw [hV3]; simp
                have hS3 : Only (fun i => X i ∨ Y i) wr V3 := hS2.next hb3
                obtain ⟨gq, hgq⟩ : ∃ g, g = w2.heap.size := ⟨_, rfl⟩
                rw [← hgq] at hg3
                have HB3 := Lib.hid hb3
                have HG3 := Lib.hid hg3
                have HZ3 := Lib.hid hz3
                have HS3 := Lib.hid hS3
                have Hgq := Lib.hid hgq
                rw [← hV3, ← hgq]
                clear hV3 hb3 hg3 hz3 hgq
                refine ⟨hS3, ?_⟩
                go_simp
                refine H_one (i := 21) (by as_aux_lemma => kernel_rfl) rfl (by rfl) ?_
                go_simp
                have HBQ : Hid (Below w2.heap.size w2 V3) := HB3
                have HSQ : Hid (Only (fun i => X i ∨ Y i) wr V3) := HS3
                have HGQ : Hid (V3.heap[gq]? = some (.cells #[.slice bua B.length buc] 34)) := HG3
                have HGQZ : Hid (wr.heap.size ≤ gq) := Lib.hid (by have := Hgq.out; have := hS2.size; omega)
                have HQV : Hid (QS w0 Y gr d V3) := Lib.hid ((HN.out.q.next HBP.out).only (HP2.out.2.1.next HB3.out) HN.out.p.own HN.out.dis)
                have HTQ := Lib.hid (HTOLD.out V3 gq HSQ.out HGQ.out)
                have HFQ : Hid (∀ i, (i < w.heap.size ∨ i = gq) → i < V3.heap.size ∧ ¬ Y i) := Lib.hid (by
                  rintro i (hi | rfl)
                  · exact ⟨Nat.lt_of_lt_of_le hi (Nat.le_trans HBW.out.size HSQ.out.size), (HLOW.out i hi).2⟩
                  · exact ⟨lt_of_heap HGQ.out, fun h => by have := HYl.out _ h; have := HGQZ.out; omega⟩)
                refine (QAppend HQV.out nm [B] (fun i => i < w.heap.size ∨ i = gq) _ HNZ.out HTQ.out HFQ.out (by have := HLN.out; have := HBL.out; simp; omega)).mono ?_
                intro e4 w4 hp4
                obtain ⟨hS4, hn4⟩ := HN.out.step HBL.out HBP.out HP2.out HBQ.out hp4
                have HN4 := Lib.hid hn4
                obtain ⟨rfl, -, -⟩ := hp4
                refine ⟨hS4, ?_⟩
                go_simp
                refine H_take (i := 22) (v := ?_) rfl (by as_aux_lemma => kernel_rfl) (by as_aux_lemma => kernel_rfl) (by as_aux_lemma => kernel_rfl) (fun _ _ _ h => h) (by rfl) hS4 ?_ ?_
                rotate_left
                · intro w' hw'; go_simp; with_reducible rfl
                go_simp
                refine wpAnyH_done (by as_aux_lemma => kernel_rfl) ?_ _
                clear r0 r1 hS hS4 hn4
                go_wp2_with fail
                go_roundw
                case rel =>
                  obtain ⟨d', X', Y', h'⟩ := HN4.out
                  exact ⟨k + 1, d', X', Y', by omega, by omega, by go_num, h'⟩
                case measure => simp [intOf]; omega
              · go_simp
                obtain ⟨V2, hV2⟩ : ∃ V, V = V1.alloc (Obj.cells #[.slice bua B.length buc] 34) := ⟨_, rfl⟩
                have hb2 : Below V1.heap.size V1 V2 := by rw [hV2]; exact below_alloc V1 _
                have hg2 : V2.heap[V1.heap.size]? = some (.cells #[.slice bua B.length buc] 34) := by rw [hV2]; exact heap_new _ _ _ rfl
                have hz2 : V2.heap.size = V1.heap.size + 1 := by rw [hV2]; simp
                have hS2 : Only (fun i => X i ∨ Y i) wr V2 := HS1.out.next hb2
                obtain ⟨gq, hgq⟩ : ∃ g, g = V1.heap.size := ⟨_, rfl⟩
                rw [← hgq] at hg2
                have HB2 := Lib.hid hb2
                have HG2 := Lib.hid hg2
                have HZ2 := Lib.hid hz2
                have HS2 := Lib.hid hS2
                have Hgq := Lib.hid hgq
                rw [← hV2, ← hgq]
                clear hV2 hb2 hg2 hz2 hgq
                refine ⟨hS2, ?_⟩
                go_simp
                refine H_one (i := 10) (by as_aux_lemma => kernel_rfl) rfl (by rfl) ?_
                go_simp
                have HGP : Hid (V2.heap[gp]? = some (.cells #[.slice bua B.length buc] 34)) := Lib.hid ((HB2.out.block gp (by have := Hgp.out; have := HZ1.out; omega)).trans HG1.out)
                have HGPZ : Hid (wr.heap.size ≤ gp) := Lib.hid (by have := Hgp.out; omega)
                have HBP : Hid (Below wr.heap.size wr V2) := Lib.hid (HB1.out.trans (HB2.out.mono HB1.out.size))
                have HPV : Hid (DS w0 X gd d V2) := Lib.hid (HN.out.p.next HBP.out)
                have HSV : Hid (Only (fun i => X i ∨ Y i) wr V2) := HS2
                have HTP := Lib.hid (HTOLD.out V2 gp HSV.out HGP.out)
                have HFP : Hid (∀ i, (i < w.heap.size ∨ i = gp) → i < V2.heap.size ∧ ¬ X i) := Lib.hid (by
                  rintro i (hi | rfl)
                  · exact ⟨Nat.lt_of_lt_of_le hi (Nat.le_trans HBW.out.size HSV.out.size), (HLOW.out i hi).1⟩
                  · exact ⟨lt_of_heap HGP.out, fun h => by have := HXl.out _ h; have := HGPZ.out; omega⟩)
                refine (DAppend HPV.out nm [B] (fun i => i < w.heap.size ∨ i = gp) _ HNZ.out HTP.out HFP.out (by have := HLN.out; have := HBL.out; simp; omega)).mono ?_
                intro e2 w2 hp2
                have HP2 := Lib.hid hp2
                have hS2 : Only (fun i => X i ∨ Y i) wr w2 := HSV.out.thn (fun i hi => .inl hi) (hp2.2.1.mono fun i hi => .inl hi)
                obtain ⟨rfl, -, -⟩ := hp2
                refine ⟨hS2, ?_⟩
                go_simp
                refine H_one (i := 21) (by as_aux_lemma => kernel_rfl) rfl (by rfl) ?_
                go_simp
                have HBQ : Hid (Below w2.heap.size w2 w2) := Lib.hid (Below.refl _ _)
                have HSQ : Hid (Only (fun i => X i ∨ Y i) wr w2) := Lib.hid hS2
                have HGQZ : Hid (wr.heap.size ≤ gq) := Lib.hid (by have := Hgq.out; have := HB1.out.size; omega)
                have HGQ : Hid (w2.heap[gq]? = some (.cells #[.slice bua B.length buc] 34)) := Lib.hid ((HP2.out.2.1.block gq (by have := Hgq.out; have := HZ2.out; omega) (fun h => by have := HXl.out _ h; have := HGQZ.out; omega)).trans HG2.out)
                have HQV : Hid (QS w0 Y gr d w2) := Lib.hid ((HN.out.q.next HBP.out).only HP2.out.2.1 HN.out.p.own HN.out.dis)
                have HTQ := Lib.hid (HTOLD.out w2 gq HSQ.out HGQ.out)
                have HFQ : Hid (∀ i, (i < w.heap.size ∨ i = gq) → i < w2.heap.size ∧ ¬ Y i) := Lib.hid (by
                  rintro i (hi | rfl)
                  · exact ⟨Nat.lt_of_lt_of_le hi (Nat.le_trans HBW.out.size HSQ.out.size), (HLOW.out i hi).2⟩
                  · exact ⟨lt_of_heap HGQ.out, fun h => by have := HYl.out _ h; have := HGQZ.out; omega⟩)
                refine (QAppend HQV.out nm [B] (fun i => i < w.heap.size ∨ i = gq) _ HNZ.out HTQ.out HFQ.out (by have := HLN.out; have := HBL.out; simp; omega)).mono ?_
                intro e4 w4 hp4
                obtain ⟨hS4, hn4⟩ := HN.out.step HBL.out HBP.out HP2.out HBQ.out hp4
                have HN4 := Lib.hid hn4
                obtain ⟨rfl, -, -⟩ := hp4
                refine ⟨hS4, ?_⟩
                go_simp
                refine H_take (i := 22) (v := ?_) rfl (by as_aux_lemma => kernel_rfl) (by as_aux_lemma => kernel_rfl) (by as_aux_lemma => kernel_rfl) (fun _ _ _ h => h) (by rfl) hS4 ?_ ?_
                rotate_left
                · intro w' hw'; go_simp; with_reducible rfl
                go_simp
                refine wpAnyH_done (by as_aux_lemma => kernel_rfl) ?_ _
                clear r0 r1 hS hS4 hn4
                go_wp2_with fail
                go_roundw
                case rel =>
                  obtain ⟨d', X', Y', h'⟩ := HN4.out
                  exact ⟨k + 1, d', X', Y', by omega, by omega, by go_num, h'⟩
                case measure => simp [intOf]; omega
            · go_simp
              obtain ⟨V1, hV1⟩ : ∃ V, V = (wr.alloc (Obj.cells #[.slice bua B.length buc] 34)).drew := ⟨_, rfl⟩
              have hb1 : Below wr.heap.size wr V1 := by rw [hV1]; exact (below_alloc wr _).drew
              have hg1 : V1.heap[wr.heap.size]? = some (.cells #[.slice bua B.length buc] 34) := by rw [hV1]; exact heap_new _ _ _ rfl
              have hz1 : V1.heap.size = wr.heap.size + 1 := by rw [hV1]; simp
              have hS1 : Only (fun i => X i ∨ Y i) wr V1 := (Only.refl (fun i => X i ∨ Y i) wr).next hb1
              obtain ⟨gq, hgq⟩ : ∃ g, g = wr.heap.size := ⟨_, rfl⟩
              rw [← hgq] at hg1
              have HB1 := Lib.hid hb1
              have HG1 := Lib.hid hg1
              have HZ1 := Lib.hid hz1
              have HS1 := Lib.hid hS1
              have Hgq := Lib.hid hgq
              rw [← hV1, ← hgq]
              clear hV1 hb1 hg1 hz1 hgq
              refine ⟨hS1, ?_⟩
              go_simp
              refine H_one (i := 9) (by as_aux_lemma => kernel_rfl) rfl (by rfl) ?_
              go_simp
              obtain ⟨V2, hV2⟩ : ∃ V, V = V1.alloc (Obj.cells #[.slice bua B.length buc] 34) := ⟨_, rfl⟩
              have hb2 : Below V1.heap.size V1 V2 := by rw [hV2]; exact below_alloc V1 _
              have hg2 : V2.heap[V1.heap.size]? = some (.cells #[.slice bua B.length buc] 34) := by rw [hV2]; exact heap_new _ _ _ rfl
              have hz2 : V2.heap.size = V1.heap.size + 1 := by rw [hV2]; simp
              have hS2 : Only (fun i => X i ∨ Y i) wr V2 := HS1.out.next hb2
              obtain ⟨gp, hgp⟩ : ∃ g, g = V1.heap.size := ⟨_, rfl⟩
              rw [← hgp] at hg2
              have HB2 := Lib.hid hb2
              have HG2 := Lib.hid hg2
              have HZ2 := Lib.hid hz2
              have HS2 := Lib.hid hS2
              have Hgp := Lib.hid hgp
              rw [← hV2, ← hgp]
              clear hV2 hb2 hg2 hz2 hgp
              refine ⟨hS2, ?_⟩
              go_simp
              refine H_one (i := 10) (by as_aux_lemma => kernel_rfl) rfl (by rfl) ?_
              go_simp
              have HGP : Hid (V2.heap[gp]? = some (.cells #[.slice bua B.length buc] 34)) := HG2
              have HGPZ : Hid (wr.heap.size ≤ gp) := Lib.hid (by have := Hgp.out; have := HB1.out.size; omega)
              have HBP : Hid (Below wr.heap.size wr V2) := Lib.hid (HB1.out.trans (HB2.out.mono HB1.out.size))
              have HPV : Hid (DS w0 X gd d V2) := Lib.hid (HN.out.p.next HBP.out)
              have HSV : Hid (Only (fun i => X i ∨ Y i) wr V2) := HS2
              have HTP := Lib.hid (HTOLD.out V2 gp HSV.out HGP.out)
              have HFP : Hid (∀ i, (i < w.heap.size ∨ i = gp) → i < V2.heap.size ∧ ¬ X i) := Lib.hid (by
                rintro i (hi | rfl)
                · exact ⟨Nat.lt_of_lt_of_le hi (Nat.le_trans HBW.out.size HSV.out.size), (HLOW.out i hi).1⟩
                · exact ⟨lt_of_heap HGP.out, fun h => by have := HXl.out _ h; have := HGPZ.out; omega⟩)
              refine (DAppend HPV.out nm [B] (fun i => i < w.heap.size ∨ i = gp) _ HNZ.out HTP.out HFP.out (by have := HLN.out; have := HBL.out; simp; omega)).mono ?_
              intro e2 w2 hp2
              have HP2 := Lib.hid hp2
              have hS2 : Only (fun i => X i ∨ Y i) wr w2 := HSV.out.thn (fun i hi => .inl hi) (hp2.2.1.mono fun i hi => .inl hi)
              obtain ⟨rfl, -, -⟩ := hp2
              refine ⟨hS2, ?_⟩
              go_simp
              refine H_one (i := 21) (by as_aux_lemma => kernel_rfl) rfl (by rfl) ?_
              go_simp
              have HBQ : Hid (Below w2.heap.size w2 w2) := Lib.hid (Below.refl _ _)
              have HSQ : Hid (Only (fun i => X i ∨ Y i) wr w2) := Lib.hid hS2
              have HGQZ : Hid (wr.heap.size ≤ gq) := Lib.hid (by have := Hgq.out; omega)
              have HGQ : Hid (w2.heap[gq]? = some (.cells #[.slice bua B.length buc] 34)) := Lib.hid ((HP2.out.2.1.block gq (by have := Hgq.out; have := HZ1.out; have := HZ2.out; omega) (fun h => by have := HXl.out _ h; have := HGQZ.out; omega)).trans ((HB2.out.block gq (by have := Hgq.out; have := HZ1.out; omega)).trans HG1.out))
              have HQV : Hid (QS w0 Y gr d w2) := Lib.hid ((HN.out.q.next HBP.out).only HP2.out.2.1 HN.out.p.own HN.out.dis)
              have HTQ := Lib.hid (HTOLD.out w2 gq HSQ.out HGQ.out)
              have HFQ : Hid (∀ i, (i < w.heap.size ∨ i = gq) → i < w2.heap.size ∧ ¬ Y i) := Lib.hid (by
                rintro i (hi | rfl)
                · exact ⟨Nat.lt_of_lt_of_le hi (Nat.le_trans HBW.out.size HSQ.out.size), (HLOW.out i hi).2⟩
                · exact ⟨lt_of_heap HGQ.out, fun h => by have := HYl.out _ h; have := HGQZ.out; omega⟩)
              refine (QAppend HQV.out nm [B] (fun i => i < w.heap.size ∨ i = gq) _ HNZ.out HTQ.out HFQ.out (by have := HLN.out; have := HBL.out; simp; omega)).mono ?_
              intro e4 w4 hp4
              obtain ⟨hS4, hn4⟩ := HN.out.step HBL.out HBP.out HP2.out HBQ.out hp4
              have HN4 := Lib.hid hn4
              obtain ⟨rfl, -, -⟩ := hp4
              refine ⟨hS4, ?_⟩
              go_simp
              refine H_take (i := 22) (v := ?_) rfl (by as_aux_lemma => kernel_rfl) (by as_aux_lemma => kernel_rfl) (by as_aux_lemma => kernel_rfl) (fun _ _ _ h => h) (by rfl) hS4 ?_ ?_
              rotate_left
              · intro w' hw'; go_simp; with_reducible rfl
              go_simp
              refine wpAnyH_done (by as_aux_lemma => kernel_rfl) ?_ _
              clear r0 r1 hS hS4 hn4
              go_wp2_with fail
              go_roundw
              case rel =>
                obtain ⟨d', X', Y', h'⟩ := HN4.out
                exact ⟨k + 1, d', X', Y', by omega, by omega, by go_num, h'⟩
              case measure => simp [intOf]; omega
        · have hkk2 : ¬ (k : Int) < (bs.length : Int) := by omega
          have HUSED : Hid (D.used d.fs ≤ 8000 ∧ d.fs.length ≤ 8) := Lib.hid ⟨Nat.le_trans HN.out.used (show 1000 * k ≤ 8000 by have := H8.out.1; omega), Nat.le_trans HN.out.len (by have := H8.out.1; omega)⟩
          have HFN := Lib.hid HN.out.p.fine.2.1
          have HXl := Lib.hid HN.out.p.lt
          go_wp2_with fail
          refine (ShOpen_any d X gd w0 wr HN.out.p (by have := HUSED.out; omega) HT0).mono ?_
          rintro e w3 ⟨gs, rfl, h3, hb3, hg3⟩
          obtain ⟨t, ht⟩ : ∃ t, t = newestS d.fs := ⟨_, rfl⟩
          rw [← ht] at h3
          have H3 := Lib.hid h3
          have HQ3 := Lib.hid (HN.out.q.next hb3)
          have HTT := Lib.hid ht
          have HTZ : Hid (t.idx = 0 → t = Sn.zero) := Lib.hid (by rw [ht]; exact newestS_zero0)
          have HAS : Hid ((newestF d.fs).isSome = (t.idx != 0)) := Lib.hid (by
            rw [ht]
            cases h : newestF d.fs with
            | none => rw [newestS_none.2 h]; rfl
            | some x =>
              have h1 : (newestS d.fs).idx ≠ 0 := fun e => by rw [newestS_none.1 e] at h; cases h
              simp [h1])
          have HTI : Hid (0 ≤ t.idx ∧ t.idx < 10000000000) := Lib.hid (by rw [ht]; exact newestS_idx d.fs)
          have HWE : Hid (Well d ∧ d.ends = false ∧ d.room = 100000) := Lib.hid ⟨HN.out.p.well, HN.out.ends, HN.out.room⟩
          clear h3 hb3 hg3 ht
          go_wp2_with fail
          refine (RefNewest6_any d Y gr w3 HQ3.out.dsk (by have := HUSED.out; omega) HFN.out).mono ?_
          rintro e w4 ⟨hb4, a1, n1, c1, a2, n2, c2, rfl, hr1, hr2⟩
          rw [← HTT.out] at hr1 hr2
          rw [← HTT.out, HAS.out]
          obtain ⟨_, _, he, -⟩ := hr1.slice
          cases he
          obtain ⟨_, _, he, -⟩ := hr2.slice
          cases he
          have HW1 : Hid (RepB w4 (fun j => w3.heap.size ≤ j ∧ j < w4.heap.size) t.conf (.slice a1 t.conf.length c1)) := Lib.hid hr1
          have HW2 : Hid (RepB w4 (fun j => w3.heap.size ≤ j ∧ j < w4.heap.size) t.body (.slice a2 t.body.length c2)) := Lib.hid hr2
          have H4 := Lib.hid (H3.out.next hb4)
          have HXl4 : Hid (∀ j, X j → j < w3.heap.size) := Lib.hid H3.out.ds.lt
          have HGS4 : Hid (gs < w3.heap.size ∧ w3.heap.size ≤ w4.heap.size) := Lib.hid ⟨H3.out.lt, hb4.size⟩
          clear hr1 hr2 hb4
          go_wp2_with fail
          obtain ⟨W5, hW5⟩ : ∃ W, W = w4.alloc (.cells #[.int .i64 t.idx, .int .i64 t.term, .slice a1 t.conf.length c1, .slice a2 t.body.length c2] 53) := ⟨_, rfl⟩
          obtain ⟨gw, hgw⟩ : ∃ g, g = w4.heap.size := ⟨_, rfl⟩
          have hb5 : Below w4.heap.size w4 W5 := by rw [hW5]; exact below_alloc _ _
          have HX5 : Hid (W5.heap[gw]? = some (.cells #[.int .i64 t.idx, .int .i64 t.term, .slice a1 t.conf.length c1, .slice a2 t.body.length c2] 53)) := Lib.hid (by rw [hW5, hgw]; exact heap_new _ _ _ rfl)
          have HGW : Hid (w3.heap.size ≤ gw ∧ gw < W5.heap.size) := Lib.hid ⟨by have := HGS4.out.2; omega, lt_of_heap HX5.out⟩
          have H5 := Lib.hid (H4.out.next hb5)
          have HW1 : Hid (RepB W5 (fun j => w3.heap.size ≤ j ∧ j < W5.heap.size) t.conf (.slice a1 t.conf.length c1)) := Lib.hid (HW1.out.same (fun j hj => ⟨hj.1, Nat.lt_of_lt_of_le hj.2 hb5.size⟩) fun j hj => hb5.block j hj.2)
          have HW2 : Hid (RepB W5 (fun j => w3.heap.size ≤ j ∧ j < W5.heap.size) t.body (.slice a2 t.body.length c2)) := Lib.hid (HW2.out.same (fun j hj => ⟨hj.1, Nat.lt_of_lt_of_le hj.2 hb5.size⟩) fun j hj => hb5.block j hj.2)
          rw [← hW5, ← hgw]
          clear hW5 hgw hb5
          refine (ShTop_any d X gd gs t w0 W5 H5.out HTZ.out).mono ?_
          rintro e w6 ⟨u1, u2, rfl, hb6, hx1, hx2⟩
          obtain ⟨ua, uc, rfl, -⟩ := hx1.slice
          obtain ⟨va, vc, rfl, -⟩ := hx2.slice
          unfold snAgg
          simp only
          have H6 := Lib.hid (H5.out.next hb6)
          have HX6 := Lib.hid (old_below HX5.out hb6)
          obtain ⟨W7, hW7⟩ : ∃ W, W = w6.alloc (.cells #[.int .i64 t.idx, .int .i64 t.term, .slice ua t.conf.length uc, .slice va t.body.length vc] 53) := ⟨_, rfl⟩
          have hb7 : Below w6.heap.size w6 W7 := by rw [hW7]; exact below_alloc _ _
          have hb57 : Below W5.heap.size W5 W7 := hb6.trans (hb7.mono hb6.size)
          have hsame := Same6_any t t (.slice ua t.conf.length uc) (.slice va t.body.length vc) (.slice a1 t.conf.length c1) (.slice a2 t.body.length c2) (fun q => q < W7.heap.size) W7
            (hx1.same (fun j hj => Nat.lt_of_lt_of_le hj.2 hb7.size) fun j hj => hb7.block j hj.2) (hx2.same (fun j hj => Nat.lt_of_lt_of_le hj.2 hb7.size) fun j hj => hb7.block j hj.2)
            (HW1.out.same (fun j hj => Nat.lt_of_lt_of_le hj.2 hb57.size) fun j hj => hb57.block j hj.2) (HW2.out.same (fun j hj => Nat.lt_of_lt_of_le hj.2 hb57.size) fun j hj => hb57.block j hj.2) (fun _ h => h)
          rw [(sameSn_iff t t).2 rfl] at hsame
          have HSM := Lib.hid hsame
          unfold snAgg at HSM
          have HX7 := Lib.hid (old_below HX6.out hb7)
          have H7 := Lib.hid (H6.out.next hb7)
          have HWW7 := Lib.hid hW7
          have HZ57 : Hid (gw < W7.heap.size) := Lib.hid (lt_of_heap HX7.out)
          obtain ⟨c0, c1', c2', c3, -, -, -, -, cz⟩ := sh_four HX6.out
          clear hx1 hx2 hb6 hb7 hb57 hsame hW7
          go_wp2_with fail
          rw [← HWW7.out]
          refine HSM.out.mono ?_
          rintro e w8 ⟨rfl, hb8⟩
          have H8' := Lib.hid (H7.out.next hb8)
          have HX8 := Lib.hid (old_below HX7.out hb8)
          clear hb8 c0 c1' c2' c3 cz
          obtain ⟨c0, c1', c2', c3, -, -, -, -, cz⟩ := sh_four HX8.out
          obtain ⟨q, hq, hq9, hq1, hq2⟩ := mod9_at up
          obtain ⟨x9, hx9⟩ : ∃ x, x = up.tmod 9 := ⟨_, rfl⟩
          rw [← hx9] at hq hq1 hq2
          have hx9' := hx9.symm
          have hti := HTI.out
          obtain ⟨hti1, hti2⟩ := hti
          clear hx9
          go_wp2_with fail
          obtain ⟨yi, hyi⟩ : ∃ y : Int, y = t.idx + 1 + (q : Int) := ⟨_, rfl⟩
          rw [← hyi]
          have hyi1 : t.idx < yi := by omega
          have hyi2 : 1 ≤ yi := by omega
          have hyi3 : yi ≤ 10000000010 := by omega
          have HYI : Hid (t.idx < yi ∧ 1 ≤ yi ∧ yi ≤ 10000000010) := Lib.hid ⟨hyi1, hyi2, hyi3⟩
          clear hyi hx9' hq hq1 hq2 hq9 hti1 hti2 c0 c1' c2' c3 cz hyi1
          refine (Snap_any yi 1 ⟨#[110, 101, 119]⟩ w8 (by decide)).mono ?_
          rintro e w9 ⟨u9, rfl, hb9, hr9⟩
          have H9 := Lib.hid (H8'.out.next hb9)
          have HXl8 : Hid (∀ j, X j → j < w8.heap.size) := Lib.hid H8'.out.ds.lt
          have HGS8 : Hid (gs < w8.heap.size) := Lib.hid H8'.out.lt
          have HR9 : Hid (RepB w9 (fun k => k < w9.heap.size ∧ ¬ X k ∧ k ≠ gs) [110, 101, 119] u9) := Lib.hid (hr9.weak fun j hj => ⟨hj.2, fun h => by have := HXl8.out j h; omega, by have := HGS8.out; omega⟩)
          obtain ⟨ya, yc, hu9, -⟩ := HR9.out.slice
          have hu9 : u9 = .slice ya 3 yc := hu9
          subst hu9
          have HXl9 : Hid (∀ j, X j → j < w9.heap.size) := Lib.hid H9.out.ds.lt
          have HGS9 : Hid (gs < w9.heap.size) := Lib.hid H9.out.lt
          unfold snAgg
          simp only
          obtain ⟨W10, hW10⟩ : ∃ W, W = w9.alloc (.cells #[.int .i64 yi, .int .i64 1, .slice none 0 0, .slice ya 3 yc] 53) := ⟨_, rfl⟩
          obtain ⟨gy, hgy⟩ : ∃ g, g = w9.heap.size := ⟨_, rfl⟩
          have hb10 : Below w9.heap.size w9 W10 := by rw [hW10]; exact below_alloc _ _
          have HY10 : Hid (W10.heap[gy]? = some (.cells #[.int .i64 yi, .int .i64 1, .slice none 0 0, .slice ya 3 yc] 53)) := Lib.hid (by rw [hW10, hgy]; exact heap_new _ _ _ rfl)
          have HGY : Hid (¬ X gy ∧ gy ≠ gs ∧ w9.heap.size ≤ gy) := Lib.hid ⟨fun h => by have := HXl9.out _ h; omega, by have := HGS9.out; omega, by omega⟩
          have H10 := Lib.hid (H9.out.next hb10)
          have HR10 : Hid (RepB W10 (fun k => k < W10.heap.size ∧ ¬ X k ∧ k ≠ gs ∧ k ≠ gy) [110, 101, 119] (.slice ya 3 yc)) := Lib.hid (HR9.out.same (fun j hj => ⟨Nat.lt_of_lt_of_le hj.1 hb10.size, hj.2.1, hj.2.2, by omega⟩) fun j hj => hb10.block j hj.1)
          have HW10 := Lib.hid hW10
          have Hgy := Lib.hid hgy
          clear hb9 hr9 hb10 hW10 hgy
          by_cases hmax : 10000000000 ≤ yi
          · have HC : Hid (Calls Tryz.prog 31 #[.pointer (some ⟨gs, 0, none⟩), .agg #[.int .i64 yi, .int .i64 1, .slice none 0 0, .slice ya 3 yc]] W10 fun e w' => e = .returned (.int .i64 2) ∧ ∃ X', (∀ k, X' k → X k ∨ W10.heap.size ≤ k) ∧ SS w0 X' gd gs d t w' ∧ Only (fun k => X k ∨ k = gs) W10 w') :=
              Lib.hid (H10.out.put (x := ⟨yi, 1, [], [110, 101, 119]⟩) (.inl ⟨rfl, Bare.nil⟩) (HR10.out.weak fun j hj => ⟨hj.1, hj.2.1⟩) (fun j hj => hj) (by simp) (by have := HUSED.out; omega) HT0 HP0 (putS_no (.inl (by unfold okSn; exact decide_eq_false (by simp only; omega)))))
            go_wp2_with fail
            rw [← HW10.out]
            refine HC.out.mono ?_
            rintro e w11 ⟨rfl, X11, -, h11, -⟩
            have HE : Hid (Below w.heap.size w w11) := Lib.hid (HB0.out.trans (h11.ds.below.mono HB0.out.size))
            clear h11
            go_wp2_with fail
            go_ret
            exact ⟨rfl, HE.out⟩
          · obtain ⟨d1, d2, hp1, hw1, hn1, hc1, hw2, hm1, hm2, hk2⟩ := newest_law HWE.out.1 HWE.out.2.1 HWE.out.2.2 HUSED.out.1 HUSED.out.2 (y := ⟨yi, 1, [], [110, 101, 119]⟩) (okSn_true (by simp only; omega)) (by rw [← HTT.out]; exact HYI.out.1) (by simp)
            rw [← HTT.out] at hp1
            have HC : Hid (Calls Tryz.prog 31 #[.pointer (some ⟨gs, 0, none⟩), .agg #[.int .i64 yi, .int .i64 1, .slice none 0 0, .slice ya 3 yc]] W10 fun e w' => e = .returned (.int .i64 0) ∧ ∃ X', (∀ k, X' k → X k ∨ W10.heap.size ≤ k) ∧ SS w0 X' gd gs d1 ⟨yi, 1, [], [110, 101, 119]⟩ w' ∧ Only (fun k => X k ∨ k = gs) W10 w') :=
              Lib.hid (H10.out.put (x := ⟨yi, 1, [], [110, 101, 119]⟩) (.inl ⟨rfl, Bare.nil⟩) (HR10.out.weak fun j hj => ⟨hj.1, hj.2.1⟩) (fun j hj => hj) (by simp) (by have := HUSED.out; omega) HT0 HP0 hp1)
            have HD1 : Hid (D.used d1.fs ≤ 1000000000 ∧ D.used d2.fs ≤ 100000 ∧ Well d2) := Lib.hid ⟨by have := hw1.used; omega, by have := hw2.used; omega, hw2⟩
            have HC1 := Lib.hid hc1
            have HK2 := Lib.hid hk2
            have HYN : Hid ((yi != 0) = true) := Lib.hid (by simp; omega)
            clear hp1 hw1 hn1 hc1 hw2 hm1 hm2 hk2
            go_wp2_with fail
            rw [← HW10.out, ← Hgy.out]
            refine HC.out.mono ?_
            rintro e w11 ⟨rfl, X11, hx11, h11, ho11⟩
            have H11 := Lib.hid h11
            have HY11 : Hid (w11.heap[gy]? = some (.cells #[.int .i64 yi, .int .i64 1, .slice none 0 0, .slice ya 3 yc] 53)) := Lib.hid ((ho11.block gy (lt_of_heap HY10.out) (by rintro (h | h); exact HGY.out.1 h; exact HGY.out.2.1 h)).trans HY10.out)
            have HR11 : Hid (RepB w11 (fun k => k < W10.heap.size ∧ ¬ X k ∧ k ≠ gs ∧ k ≠ gy) [110, 101, 119] (.slice ya 3 yc)) := Lib.hid (HR10.out.same (fun _ h => h) fun j hj => ho11.block j hj.1 (by rintro (h | h); exact hj.2.1 h; exact hj.2.2.1 h))
            have HX11 := Lib.hid hx11
            have HZ11 : Hid (W10.heap.size ≤ w11.heap.size) := Lib.hid ho11.size
            clear hx11 h11 ho11
            go_wp2_with fail
            have hcl := ShClean_any d1 X11 gd gs ⟨yi, 1, [], [110, 101, 119]⟩ w0 w11 H11.out HD1.out.1
            simp only at hcl
            rw [HC1.out] at hcl
            refine hcl.mono ?_
            clear hcl
            rintro e w12 ⟨rfl, X12, hx12, h12, ho12⟩
            have H12 := Lib.hid h12
            have HN12 : Hid (∀ j, j < W10.heap.size → ¬ X j → j ≠ gs → w12.heap[j]? = w11.heap[j]?) := Lib.hid fun j hj h1 h2 => ho12.block j (by have := HZ11.out; omega) (by
              rintro (h | h)
              · rcases HX11.out j h with h | h
                · exact h1 h
                · omega
              · exact h2 h)
            have HY12 : Hid (w12.heap[gy]? = some (.cells #[.int .i64 yi, .int .i64 1, .slice none 0 0, .slice ya 3 yc] 53)) := Lib.hid ((HN12.out gy (lt_of_heap HY10.out) HGY.out.1 HGY.out.2.1).trans HY11.out)
            have HR12 : Hid (RepB w12 (fun k => k < W10.heap.size ∧ ¬ X k ∧ k ≠ gs ∧ k ≠ gy) [110, 101, 119] (.slice ya 3 yc)) := Lib.hid (HR11.out.same (fun _ h => h) fun j hj => HN12.out j hj.1 hj.2.1 hj.2.2.1)
            have HZ12 : Hid (W10.heap.size ≤ w12.heap.size) := Lib.hid (Nat.le_trans HZ11.out ho12.size)
            clear hx12 h12 ho12
            go_wp2_with fail
            have htop := ShTop_any d2 X12 gd gs ⟨yi, 1, [], [110, 101, 119]⟩ w0 w12 H12.out (fun h => by simp only at h; omega)
            simp only at htop
            rw [HYN.out] at htop
            refine htop.mono ?_
            clear htop
            rintro e w13 ⟨z1, z2, rfl, hb13, hz1, hz2⟩
            obtain ⟨za, zc, hze, -⟩ := hz1.slice
            have hze : z1 = .slice za 0 zc := hze
            subst hze
            obtain ⟨zb, ze, hzf, -⟩ := hz2.slice
            have hzf : z2 = .slice zb 3 ze := hzf
            subst hzf
            obtain ⟨W14, hW14⟩ : ∃ W, W = w13.alloc (.cells #[.int .i64 yi, .int .i64 1, .slice za 0 zc, .slice zb 3 ze] 53) := ⟨_, rfl⟩
            obtain ⟨gz, hgz⟩ : ∃ g, g = w13.heap.size := ⟨_, rfl⟩
            have hb14 : Below w13.heap.size w13 W14 := by rw [hW14]; exact below_alloc _ _
            have hb24 : Below w12.heap.size w12 W14 := hb13.trans (hb14.mono hb13.size)
            have HZ14 : Hid (W14.heap[gz]? = some (.cells #[.int .i64 yi, .int .i64 1, .slice za 0 zc, .slice zb 3 ze] 53)) := Lib.hid (by rw [hW14, hgz]; exact heap_new _ _ _ rfl)
            have HY14 := Lib.hid (old_below HY12.out hb24)
            have H14 := Lib.hid (H12.out.next hb24)
            have HSA : Hid (∀ wx, Below W14.heap.size W14 wx → Calls Tryz.prog 25 #[.agg #[.int .i64 yi, .int .i64 1, .slice za 0 zc, .slice zb 3 ze], .agg #[.int .i64 yi, .int .i64 1, .slice none 0 0, .slice ya 3 yc]] wx fun e w' => e = .returned (.bool true) ∧ Below wx.heap.size wx w') := Lib.hid fun wx hbx => by
              have hzz := hb14.size
              have hs := Same6_any ⟨yi, 1, [], [110, 101, 119]⟩ ⟨yi, 1, [], [110, 101, 119]⟩ (.slice za 0 zc) (.slice zb 3 ze) (.slice none 0 0) (.slice ya 3 yc) (fun j => j < wx.heap.size) wx
                (hz1.same (fun j hj => Nat.lt_of_lt_of_le hj.2 (Nat.le_trans hzz hbx.size)) fun j hj => (hbx.block j (by omega)).trans (hb14.block j hj.2))
                (hz2.same (fun j hj => Nat.lt_of_lt_of_le hj.2 (Nat.le_trans hzz hbx.size)) fun j hj => (hbx.block j (by omega)).trans (hb14.block j hj.2))
                (.inl ⟨rfl, Bare.nil⟩)
                (HR12.out.same (fun j hj => by have := HZ12.out; have := hb24.size; have := hbx.size; omega) fun j hj => (hbx.block j (by have := HZ12.out; have := hb24.size; omega)).trans (hb24.block j (by have := HZ12.out; omega))) (fun _ h => h)
              rw [(sameSn_iff _ _).2 rfl] at hs
              exact hs
            have HW14 := Lib.hid hW14
            have HGZ := Lib.hid hgz
            unfold snAgg
            simp only
            clear hb13 hz1 hz2 hb14 hb24 hW14 hgz
            go_wp2_with fail
            rw [← HW14.out, ← HGZ.out]
            refine (Names_any d2 X12 gd W14 H14.out.ds.dsk H14.out.ds.fine.1 (by have := H14.out.ds.fine.2.2; omega)).mono ?_
            rintro e w15 ⟨vn, rfl, hb15, hrow⟩
            obtain ⟨sa, sc, hsv⟩ := owned_slice hrow
            subst hsv
            have HROW := Lib.hid hrow
            have H15 := Lib.hid (H14.out.next hb15)
            have HY15 := Lib.hid (old_below HY14.out hb15)
            have HZ15 := Lib.hid (old_below HZ14.out hb15)
            have HB15 := Lib.hid hb15
            have hn4 := H15.out.ds.fine.2.2
            clear hrow hb15
            go_wp2_with fail
            go_loopw [20, 22, 23, 24, 25, 26] (fun kp i _ _ _ _ wr => ∃ (m c : Nat), m ≤ d2.fs.length ∧ c ≤ m ∧ i = .int .i64 (m : Int) ∧ kp = .int .i64 (c : Int) ∧ Hid (c = ((d2.fs.take m).filter keptF).length) ∧ Hid (Below w15.heap.size w15 wr)) (fun _ i _ _ _ _ _ => d2.fs.length - (intOf i).toNat)
            case atStart => exact ⟨0, 0, Nat.zero_le _, Nat.le_refl _, rfl, rfl, Lib.hid rfl, Lib.hid (Below.refl _ _)⟩
            case round =>
              obtain ⟨m, c, hm, hcm, rfl, rfl, HCC, HBM⟩ := hrel
              by_cases hmd : m < d2.fs.length
              · have hmi : (m : Int) < (d2.fs.length : Int) := by omega
                obtain ⟨gl, hga, -, hgl, hcl⟩ := row_cell HROW.out m hmd
                subst hga
                obtain ⟨f, hf⟩ : ∃ f, f = d2.fs[m] := ⟨_, rfl⟩
                have hfm : f ∈ d2.fs := by rw [hf]; exact List.getElem_mem _
                rw [List.getElem?_map, List.getElem?_eq_getElem hmd, ← hf] at hcl
                replace hcl : w15.cell? ⟨gl, m, none⟩ = some (.string f.nm) := hcl
                have HBO : Hid (bytesOf d2.fs f.nm = f.b ∧ f.b.length ≤ 1000000) := Lib.hid (by
                  unfold bytesOf
                  rw [find_some H15.out.ds.fine.1 hfm]
                  exact ⟨rfl, by have := D.used_mem hfm; have := HD1.out.2.1; omega⟩)
                have HNS := Lib.hid (H15.out.ds.fine.2.1 f hfm)
                have HNX : Hid (((d2.fs.take (m + 1)).filter keptF).length = c + (if keptF f then 1 else 0)) := Lib.hid (by
                  rw [List.take_succ_eq_append_getElem hmd, List.filter_append, List.length_append, ← HCC.out, ← hf]
                  cases h : keptF f <;> simp [h])
                have HR := Lib.hid (H15.out.next HBM.out)
                have hcm1 : wr.cell? ⟨gl, m, none⟩ = some (.string f.nm) := (World.cell?_of_block (a := ⟨gl, m, none⟩) (HBM.out.block gl hgl)).trans hcl
                have hglr : gl < wr.heap.size := Nat.lt_of_lt_of_le hgl HBM.out.size
                have hc4 : c ≤ 4096 := by omega
                have hm4 : m ≤ 4096 := by omega
                have HGL := Lib.hid hgl
                have HCL := Lib.hid hcl
                clear hf hfm hcl hgl
                go_wp2_with fail
                refine (PRead_any d2 X12 gd f.nm wr HR.out.ds.dsk HR.out.ds.fine.1 HNS.out (by have := HD1.out.2.1; omega)).mono ?_
                rintro e w16 ⟨v16, rfl, hown⟩
                rw [HBO.out.1] at hown
                have HOW := Lib.hid hown
                obtain ⟨va, vc, rfl⟩ := hown.slice
                clear hown hcm1 hglr
                go_wp2_with fail
                refine (RefParse_any f.b (fun j => j < w16.heap.size) _ w16 HOW.out.now (fun _ h => h) HBO.out.2).mono ?_
                intro e w17 hpp
                obtain ⟨hb17, b1, m1, k1, b2, m2, k2, rfl, -, -⟩ := hpp.ans
                have hcs := ans_cases f
                obtain ⟨A, hA⟩ : ∃ A, A = ansS (snParse f.b) := ⟨_, rfl⟩
                obtain ⟨E, hE⟩ : ∃ E, E = ansE (snParse f.b) := ⟨_, rfl⟩
                rw [← hA, ← hE] at hcs ⊢
                obtain ⟨W18, hW18⟩ : ∃ W, W = w17.alloc (.cells #[.int .i64 A.idx, .int .i64 A.term, .slice b1 m1 k1, .slice b2 m2 k2] 53) := ⟨_, rfl⟩
                obtain ⟨gx, hgx⟩ : ∃ g, g = w17.heap.size := ⟨_, rfl⟩
                have hb18 : Below w17.heap.size w17 W18 := by rw [hW18]; exact below_alloc _ _
                have hx18 : W18.heap[gx]? = some (.cells #[.int .i64 A.idx, .int .i64 A.term, .slice b1 m1 k1, .slice b2 m2 k2] 53) := by rw [hW18, hgx]; exact heap_new _ _ _ rfl
                have hbr8 : Below wr.heap.size wr W18 := HOW.out.1.trans ((hb17.trans (hb18.mono hb17.size)).mono HOW.out.1.size)
                have hb58 : Below w15.heap.size w15 W18 := HBM.out.trans (hbr8.mono HBM.out.size)
                have HB58 := Lib.hid hb58
                have hc18 : W18.cell? ⟨gl, m, none⟩ = some (.string f.nm) := (World.cell?_of_block (a := ⟨gl, m, none⟩) (hb58.block gl HGL.out)).trans HCL.out
                have hgl18 : gl < W18.heap.size := Nat.lt_of_lt_of_le HGL.out hb58.size
                have HW18 := Lib.hid hW18
                have Hgx := Lib.hid hgx
                obtain ⟨c0, -, -, -, -, -, -, -, cz⟩ := sh_four hx18
                have r0 : ∀ w', Below W18.heap.size W18 w' → w'.cell? ⟨gl, m, none⟩ = some (.string f.nm) := fun w' hw' => (hw'.cell hgl18).trans hc18
                have r1 : ∀ w', Below W18.heap.size W18 w' → w'.cell? ⟨gx, 0, none⟩ = some (.int .i64 A.idx) := fun w' hw' => (hw'.cell cz).trans c0
                have hS : Below W18.heap.size W18 W18.drew := (Below.refl _ _).drew
                clear hpp hb17 hb18 hx18 hbr8 hb58 hc18 hgl18 c0 cz hW18 hgx hA hE
                have HCS := Lib.hid hcs
                have R1 := Lib.hid r1
                clear hcs r1
                go_wp2_with fail
                rw [← HW18.out, ← Hgx.out]
                refine wp_region_held (S := fun w' => Below W18.heap.size W18 w') (by kernel_rfl) ?_
                rcases HCS.out with ⟨h0, hkf⟩ | ⟨h0, n, hn, hn9, hkf⟩
                · have HKF := Lib.hid hkf
                  clear hkf
                  have q3 : (E == 0) = false := beq_eq_false_iff_ne.2 h0
                  have q4 : decide (E = 0) = false := decide_eq_false h0
                  refine H_take (i := 0) (v := ?_) rfl (by as_aux_lemma => kernel_rfl) (by as_aux_lemma => kernel_rfl) (by as_aux_lemma => kernel_rfl) (fun _ _ _ h => h) (by rfl) hS ?_ ?_
                  rotate_left
                  · intro w' hw'; go_simp; with_reducible rfl
                  go_simp
                  refine H_take (i := 1) (v := ?_) rfl (by as_aux_lemma => kernel_rfl) (by as_aux_lemma => kernel_rfl) (by as_aux_lemma => kernel_rfl) (fun _ _ _ h => h) (by rfl) hS ?_ ?_
                  rotate_left
                  · intro w' hw'; go_simp; with_reducible rfl
                  go_simp
                  refine H_take (i := 2) (v := ?_) rfl (by as_aux_lemma => kernel_rfl) (by as_aux_lemma => kernel_rfl) (by as_aux_lemma => kernel_rfl) (fun _ _ _ h => h) (by rfl) hS ?_ ?_
                  rotate_left
                  · intro w' hw'; go_simp; with_reducible rfl
                  go_simp
                  refine H_skip (i := 3) rfl (by as_aux_lemma => kernel_rfl) (by as_aux_lemma => kernel_rfl) (by as_aux_lemma => kernel_rfl) (fun _ _ _ h => h) (by rfl) hS ?_
                  go_simp
                  refine H_skip (i := 4) rfl (by as_aux_lemma => kernel_rfl) (by as_aux_lemma => kernel_rfl) (by as_aux_lemma => kernel_rfl) (fun _ _ _ h => h) (by rfl) hS ?_
                  go_simp
                  refine H_skip (i := 5) rfl (by as_aux_lemma => kernel_rfl) (by as_aux_lemma => kernel_rfl) (by as_aux_lemma => kernel_rfl) (fun _ _ _ h => h) (by rfl) hS ?_
                  go_simp
                  refine H_skip (i := 6) rfl (by as_aux_lemma => kernel_rfl) (by as_aux_lemma => kernel_rfl) (by as_aux_lemma => kernel_rfl) (fun _ _ _ h => h) (by rfl) hS ?_
                  go_simp
                  refine H_skip (i := 7) rfl (by as_aux_lemma => kernel_rfl) (by as_aux_lemma => kernel_rfl) (by as_aux_lemma => kernel_rfl) (fun _ _ _ h => h) (by rfl) hS ?_
                  go_simp
                  refine H_skip (i := 8) rfl (by as_aux_lemma => kernel_rfl) (by as_aux_lemma => kernel_rfl) (by as_aux_lemma => kernel_rfl) (fun _ _ _ h => h) (by rfl) hS ?_
                  go_simp
                  refine H_skip (i := 9) rfl (by as_aux_lemma => kernel_rfl) (by as_aux_lemma => kernel_rfl) (by as_aux_lemma => kernel_rfl) (fun _ _ _ h => h) (by rfl) hS ?_
                  go_simp
                  refine H_skip (i := 10) rfl (by as_aux_lemma => kernel_rfl) (by as_aux_lemma => kernel_rfl) (by as_aux_lemma => kernel_rfl) (fun _ _ _ h => h) (by rfl) hS ?_
                  go_simp
                  refine H_skip (i := 11) rfl (by as_aux_lemma => kernel_rfl) (by as_aux_lemma => kernel_rfl) (by as_aux_lemma => kernel_rfl) (fun _ _ _ h => h) (by rfl) hS ?_
                  go_simp
                  refine H_take (i := 12) (v := ?_) rfl (by as_aux_lemma => kernel_rfl) (by as_aux_lemma => kernel_rfl) (by as_aux_lemma => kernel_rfl) (fun _ _ _ h => h) (by rfl) hS ?_ ?_
                  rotate_left
                  · intro w' hw'; go_simp; with_reducible rfl
                  go_simp
                  refine wpAnyH_done (by as_aux_lemma => kernel_rfl) ?_ _
                  have HBN : Hid (Below w15.heap.size w15 W18.drew) := Lib.hid HB58.out.drew
                  clear r0 hS h0 q3 q4
                  go_wp2_with fail
                  go_roundw
                  case rel => exact ⟨m + 1, c, by omega, by omega, by go_num, rfl, Lib.hid (by rw [HNX.out, HKF.out]; simp), HBN⟩
                  case measure => simp [intOf]; omega
                · subst h0
                  have r1 := R1.out
                  rw [hn] at r1
                  obtain ⟨sn, hsn⟩ : ∃ sn, sn = snName (n : Int) := ⟨_, rfl⟩
                  rw [← hsn] at hkf
                  have HSN := Lib.hid hsn
                  have HN9 := Lib.hid hn9
                  clear hsn hn9
                  cases hkv : keptF f with
                  | true =>
                    rw [hkv] at hkf
                    have HKE := Lib.hid hkf.symm
                    have HKF := Lib.hid hkv
                    clear hkv hkf hn
                    refine H_take (i := 0) (v := ?_) rfl (by as_aux_lemma => kernel_rfl) (by as_aux_lemma => kernel_rfl) (by as_aux_lemma => kernel_rfl) (fun _ _ _ h => h) (by rfl) hS ?_ ?_
                    rotate_left
                    · intro w' hw'; go_simp; with_reducible rfl
                    go_simp
                    refine H_take (i := 1) (v := ?_) rfl (by as_aux_lemma => kernel_rfl) (by as_aux_lemma => kernel_rfl) (by as_aux_lemma => kernel_rfl) (fun _ _ _ h => h) (by rfl) hS ?_ ?_
                    rotate_left
                    · intro w' hw'; go_simp; with_reducible rfl
                    go_simp
                    refine H_take (i := 2) (v := ?_) rfl (by as_aux_lemma => kernel_rfl) (by as_aux_lemma => kernel_rfl) (by as_aux_lemma => kernel_rfl) (fun _ _ _ h => h) (by rfl) hS ?_ ?_
                    rotate_left
                    · intro w' hw'; go_simp; with_reducible rfl
                    go_simp
                    refine H_take (i := 3) (v := ?_) rfl (by as_aux_lemma => kernel_rfl) (by as_aux_lemma => kernel_rfl) (by as_aux_lemma => kernel_rfl) (fun _ _ _ h => h) (by rfl) hS ?_ ?_
                    rotate_left
                    · intro w' hw'; go_simp; with_reducible rfl
                    go_simp
                    refine H_take (i := 4) (v := ?_) rfl (by as_aux_lemma => kernel_rfl) (by as_aux_lemma => kernel_rfl) (by as_aux_lemma => kernel_rfl) (fun _ _ _ h => h) (by rfl) hS ?_ ?_
                    rotate_left
                    · intro w' hw'; go_simp; with_reducible rfl
                    go_simp
                    refine H_take (i := 5) (v := ?_) rfl (by as_aux_lemma => kernel_rfl) (by as_aux_lemma => kernel_rfl) (by as_aux_lemma => kernel_rfl) (fun _ _ _ h => h) (by rfl) hS ?_ ?_
                    rotate_left
                    · intro w' hw'; go_simp; with_reducible rfl
                    go_simp
                    refine H_take (i := 6) (v := ?_) rfl (by as_aux_lemma => kernel_rfl) (by as_aux_lemma => kernel_rfl) (by as_aux_lemma => kernel_rfl) (fun _ _ _ h => h) (by rfl) hS ?_ ?_
                    rotate_left
                    · intro w' hw'; go_simp; with_reducible rfl
                    go_simp
                    refine H_take (i := 7) (v := ?_) rfl (by as_aux_lemma => kernel_rfl) (by as_aux_lemma => kernel_rfl) (by as_aux_lemma => kernel_rfl) (fun _ _ _ h => h) (by rfl) hS ?_ ?_
                    rotate_left
                    · intro w' hw'; go_simp; with_reducible rfl
                    go_simp
                    refine H_take (i := 8) (v := ?_) rfl (by as_aux_lemma => kernel_rfl) (by as_aux_lemma => kernel_rfl) (by as_aux_lemma => kernel_rfl) (fun _ _ _ h => h) (by rfl) hS ?_ ?_
                    rotate_left
                    · intro w' hw'; go_simp; with_reducible rfl
                    go_simp
                    refine H_take (i := 9) (v := ?_) rfl (by as_aux_lemma => kernel_rfl) (by as_aux_lemma => kernel_rfl) (by as_aux_lemma => kernel_rfl) (fun _ _ _ h => h) (by rfl) hS ?_ ?_
                    rotate_left
                    · intro w' hw'; go_simp; with_reducible rfl
                    go_simp
                    refine H_one (i := 10) (by as_aux_lemma => kernel_rfl) rfl (by rfl) ?_
                    go_simp
                    refine (RefName6_any n _ HN9.out).mono ?_
                    rintro e w19 ⟨rfl, rfl⟩
                    rw [← HSN.out]
                    refine ⟨hS, ?_⟩
                    go_simp
                    have hkf := HKE.out
                    refine H_take (i := 11) (v := ?_) rfl (by as_aux_lemma => kernel_rfl) (by as_aux_lemma => kernel_rfl) (by as_aux_lemma => kernel_rfl) (fun _ _ _ h => h) (by rfl) hS ?_ ?_
                    rotate_left
                    · intro w' hw'; go_simp; with_reducible rfl
                    go_simp
                    refine H_take (i := 12) (v := ?_) rfl (by as_aux_lemma => kernel_rfl) (by as_aux_lemma => kernel_rfl) (by as_aux_lemma => kernel_rfl) (fun _ _ _ h => h) (by rfl) hS ?_ ?_
                    rotate_left
                    · intro w' hw'; go_simp; with_reducible rfl
                    go_simp
                    refine wpAnyH_done (by as_aux_lemma => kernel_rfl) ?_ _
                    have HBN : Hid (Below w15.heap.size w15 W18.drew) := Lib.hid HB58.out.drew
                    clear r0 r1 hS hkf
                    go_wp2_with fail
                    go_roundw
                    case rel => exact ⟨m + 1, c + 1, by omega, by omega, by go_num, by go_num, Lib.hid (by rw [HNX.out, HKF.out]; simp), HBN⟩
                    case measure => simp [intOf]; omega
                  | false =>
                    rw [hkv] at hkf
                    have HKE := Lib.hid hkf.symm
                    have HKF := Lib.hid hkv
                    clear hkv hkf hn
                    refine H_take (i := 0) (v := ?_) rfl (by as_aux_lemma => kernel_rfl) (by as_aux_lemma => kernel_rfl) (by as_aux_lemma => kernel_rfl) (fun _ _ _ h => h) (by rfl) hS ?_ ?_
                    rotate_left
                    · intro w' hw'; go_simp; with_reducible rfl
                    go_simp
                    refine H_take (i := 1) (v := ?_) rfl (by as_aux_lemma => kernel_rfl) (by as_aux_lemma => kernel_rfl) (by as_aux_lemma => kernel_rfl) (fun _ _ _ h => h) (by rfl) hS ?_ ?_
                    rotate_left
                    · intro w' hw'; go_simp; with_reducible rfl
                    go_simp
                    refine H_take (i := 2) (v := ?_) rfl (by as_aux_lemma => kernel_rfl) (by as_aux_lemma => kernel_rfl) (by as_aux_lemma => kernel_rfl) (fun _ _ _ h => h) (by rfl) hS ?_ ?_
                    rotate_left
                    · intro w' hw'; go_simp; with_reducible rfl
                    go_simp
                    refine H_take (i := 3) (v := ?_) rfl (by as_aux_lemma => kernel_rfl) (by as_aux_lemma => kernel_rfl) (by as_aux_lemma => kernel_rfl) (fun _ _ _ h => h) (by rfl) hS ?_ ?_
                    rotate_left
                    · intro w' hw'; go_simp; with_reducible rfl
                    go_simp
                    refine H_take (i := 4) (v := ?_) rfl (by as_aux_lemma => kernel_rfl) (by as_aux_lemma => kernel_rfl) (by as_aux_lemma => kernel_rfl) (fun _ _ _ h => h) (by rfl) hS ?_ ?_
                    rotate_left
                    · intro w' hw'; go_simp; with_reducible rfl
                    go_simp
                    refine H_take (i := 5) (v := ?_) rfl (by as_aux_lemma => kernel_rfl) (by as_aux_lemma => kernel_rfl) (by as_aux_lemma => kernel_rfl) (fun _ _ _ h => h) (by rfl) hS ?_ ?_
                    rotate_left
                    · intro w' hw'; go_simp; with_reducible rfl
                    go_simp
                    refine H_take (i := 6) (v := ?_) rfl (by as_aux_lemma => kernel_rfl) (by as_aux_lemma => kernel_rfl) (by as_aux_lemma => kernel_rfl) (fun _ _ _ h => h) (by rfl) hS ?_ ?_
                    rotate_left
                    · intro w' hw'; go_simp; with_reducible rfl
                    go_simp
                    refine H_take (i := 7) (v := ?_) rfl (by as_aux_lemma => kernel_rfl) (by as_aux_lemma => kernel_rfl) (by as_aux_lemma => kernel_rfl) (fun _ _ _ h => h) (by rfl) hS ?_ ?_
                    rotate_left
                    · intro w' hw'; go_simp; with_reducible rfl
                    go_simp
                    refine H_take (i := 8) (v := ?_) rfl (by as_aux_lemma => kernel_rfl) (by as_aux_lemma => kernel_rfl) (by as_aux_lemma => kernel_rfl) (fun _ _ _ h => h) (by rfl) hS ?_ ?_
                    rotate_left
                    · intro w' hw'; go_simp; with_reducible rfl
                    go_simp
                    refine H_take (i := 9) (v := ?_) rfl (by as_aux_lemma => kernel_rfl) (by as_aux_lemma => kernel_rfl) (by as_aux_lemma => kernel_rfl) (fun _ _ _ h => h) (by rfl) hS ?_ ?_
                    rotate_left
                    · intro w' hw'; go_simp; with_reducible rfl
                    go_simp
                    refine H_one (i := 10) (by as_aux_lemma => kernel_rfl) rfl (by rfl) ?_
                    go_simp
                    refine (RefName6_any n _ HN9.out).mono ?_
                    rintro e w19 ⟨rfl, rfl⟩
                    rw [← HSN.out]
                    refine ⟨hS, ?_⟩
                    go_simp
                    have hkf := HKE.out
                    refine H_take (i := 11) (v := ?_) rfl (by as_aux_lemma => kernel_rfl) (by as_aux_lemma => kernel_rfl) (by as_aux_lemma => kernel_rfl) (fun _ _ _ h => h) (by rfl) hS ?_ ?_
                    rotate_left
                    · intro w' hw'; go_simp; with_reducible rfl
                    go_simp
                    refine H_take (i := 12) (v := ?_) rfl (by as_aux_lemma => kernel_rfl) (by as_aux_lemma => kernel_rfl) (by as_aux_lemma => kernel_rfl) (fun _ _ _ h => h) (by rfl) hS ?_ ?_
                    rotate_left
                    · intro w' hw'; go_simp; with_reducible rfl
                    go_simp
                    refine wpAnyH_done (by as_aux_lemma => kernel_rfl) ?_ _
                    have HBN : Hid (Below w15.heap.size w15 W18.drew) := Lib.hid HB58.out.drew
                    clear r0 r1 hS hkf
                    go_wp2_with fail
                    go_roundw
                    case rel => exact ⟨m + 1, c, by omega, by omega, by go_num, rfl, Lib.hid (by rw [HNX.out, HKF.out]; simp), HBN⟩
                    case measure => simp [intOf]; omega
              · have hmi : ¬ (m : Int) < (d2.fs.length : Int) := by omega
                have hme : m = d2.fs.length := by omega
                have hc1 : c = 1 := by rw [HCC.out, hme, List.take_length]; exact HK2.out
                subst hc1
                have hzr := old_below HZ15.out HBM.out
                have hyr := old_below HY15.out HBM.out
                obtain ⟨c0, c1', c2', c3, -, -, -, -, cz⟩ := sh_four hzr
                obtain ⟨e0, e1, e2, e3, -, -, -, -, ez⟩ := sh_four hyr
                have HSC := Lib.hid (HSA.out wr (HB15.out.trans (HBM.out.mono HB15.out.size)))
                have HE : Hid (Below w.heap.size w wr) := Lib.hid (HB0.out.trans ((H15.out.next HBM.out).ds.below.mono HB0.out.size))
                clear hzr hyr hme
                go_wp2_with fail
                refine HSC.out.mono ?_
                rintro e w16 ⟨rfl, hb16⟩
                have HE2 : Hid (Below w.heap.size w w16) := Lib.hid (HE.out.trans (hb16.mono HE.out.size))
                clear hb16 c0 c1' c2' c3 cz e0 e1 e2 e3 ez
                go_wp2_with fail
                go_ret
                exact ⟨rfl, HE2.out⟩
      · have hkk : ¬ (k : Int) < (names.length : Int) := by omega
        have HUSED : Hid (D.used d.fs ≤ 8000 ∧ d.fs.length ≤ 8) := Lib.hid ⟨Nat.le_trans HN.out.used (show 1000 * k ≤ 8000 by have := H8.out.1; omega), Nat.le_trans HN.out.len (by have := H8.out.1; omega)⟩
        have HFN := Lib.hid HN.out.p.fine.2.1
        have HXl := Lib.hid HN.out.p.lt
        go_wp2_with fail
        refine (ShOpen_any d X gd w0 wr HN.out.p (by have := HUSED.out; omega) HT0).mono ?_
        rintro e w3 ⟨gs, rfl, h3, hb3, hg3⟩
        obtain ⟨t, ht⟩ : ∃ t, t = newestS d.fs := ⟨_, rfl⟩
        rw [← ht] at h3
        have H3 := Lib.hid h3
        have HQ3 := Lib.hid (HN.out.q.next hb3)
        have HTT := Lib.hid ht
        have HTZ : Hid (t.idx = 0 → t = Sn.zero) := Lib.hid (by rw [ht]; exact newestS_zero0)
        have HAS : Hid ((newestF d.fs).isSome = (t.idx != 0)) := Lib.hid (by
          rw [ht]
          cases h : newestF d.fs with
          | none => rw [newestS_none.2 h]; rfl
          | some x =>
            have h1 : (newestS d.fs).idx ≠ 0 := fun e => by rw [newestS_none.1 e] at h; cases h
            simp [h1])
        have HTI : Hid (0 ≤ t.idx ∧ t.idx < 10000000000) := Lib.hid (by rw [ht]; exact newestS_idx d.fs)
        have HWE : Hid (Well d ∧ d.ends = false ∧ d.room = 100000) := Lib.hid ⟨HN.out.p.well, HN.out.ends, HN.out.room⟩
        clear h3 hb3 hg3 ht
        go_wp2_with fail
        refine (RefNewest6_any d Y gr w3 HQ3.out.dsk (by have := HUSED.out; omega) HFN.out).mono ?_
        rintro e w4 ⟨hb4, a1, n1, c1, a2, n2, c2, rfl, hr1, hr2⟩
        rw [← HTT.out] at hr1 hr2
        rw [← HTT.out, HAS.out]
        obtain ⟨_, _, he, -⟩ := hr1.slice
        cases he
        obtain ⟨_, _, he, -⟩ := hr2.slice
        cases he
        have HW1 : Hid (RepB w4 (fun j => w3.heap.size ≤ j ∧ j < w4.heap.size) t.conf (.slice a1 t.conf.length c1)) := Lib.hid hr1
        have HW2 : Hid (RepB w4 (fun j => w3.heap.size ≤ j ∧ j < w4.heap.size) t.body (.slice a2 t.body.length c2)) := Lib.hid hr2
        have H4 := Lib.hid (H3.out.next hb4)
        have HXl4 : Hid (∀ j, X j → j < w3.heap.size) := Lib.hid H3.out.ds.lt
        have HGS4 : Hid (gs < w3.heap.size ∧ w3.heap.size ≤ w4.heap.size) := Lib.hid ⟨H3.out.lt, hb4.size⟩
        clear hr1 hr2 hb4
        go_wp2_with fail
        obtain ⟨W5, hW5⟩ : ∃ W, W = w4.alloc (.cells #[.int .i64 t.idx, .int .i64 t.term, .slice a1 t.conf.length c1, .slice a2 t.body.length c2] 53) := ⟨_, rfl⟩
        obtain ⟨gw, hgw⟩ : ∃ g, g = w4.heap.size := ⟨_, rfl⟩
        have hb5 : Below w4.heap.size w4 W5 := by rw [hW5]; exact below_alloc _ _
        have HX5 : Hid (W5.heap[gw]? = some (.cells #[.int .i64 t.idx, .int .i64 t.term, .slice a1 t.conf.length c1, .slice a2 t.body.length c2] 53)) := Lib.hid (by rw [hW5, hgw]; exact heap_new _ _ _ rfl)
        have HGW : Hid (w3.heap.size ≤ gw ∧ gw < W5.heap.size) := Lib.hid ⟨by have := HGS4.out.2; omega, lt_of_heap HX5.out⟩
        have H5 := Lib.hid (H4.out.next hb5)
        have HW1 : Hid (RepB W5 (fun j => w3.heap.size ≤ j ∧ j < W5.heap.size) t.conf (.slice a1 t.conf.length c1)) := Lib.hid (HW1.out.same (fun j hj => ⟨hj.1, Nat.lt_of_lt_of_le hj.2 hb5.size⟩) fun j hj => hb5.block j hj.2)
        have HW2 : Hid (RepB W5 (fun j => w3.heap.size ≤ j ∧ j < W5.heap.size) t.body (.slice a2 t.body.length c2)) := Lib.hid (HW2.out.same (fun j hj => ⟨hj.1, Nat.lt_of_lt_of_le hj.2 hb5.size⟩) fun j hj => hb5.block j hj.2)
        rw [← hW5, ← hgw]
        clear hW5 hgw hb5
        refine (ShTop_any d X gd gs t w0 W5 H5.out HTZ.out).mono ?_
        rintro e w6 ⟨u1, u2, rfl, hb6, hx1, hx2⟩
        obtain ⟨ua, uc, rfl, -⟩ := hx1.slice
        obtain ⟨va, vc, rfl, -⟩ := hx2.slice
        unfold snAgg
        simp only
        have H6 := Lib.hid (H5.out.next hb6)
        have HX6 := Lib.hid (old_below HX5.out hb6)
        obtain ⟨W7, hW7⟩ : ∃ W, W = w6.alloc (.cells #[.int .i64 t.idx, .int .i64 t.term, .slice ua t.conf.length uc, .slice va t.body.length vc] 53) := ⟨_, rfl⟩
        have hb7 : Below w6.heap.size w6 W7 := by rw [hW7]; exact below_alloc _ _
        have hb57 : Below W5.heap.size W5 W7 := hb6.trans (hb7.mono hb6.size)
        have hsame := Same6_any t t (.slice ua t.conf.length uc) (.slice va t.body.length vc) (.slice a1 t.conf.length c1) (.slice a2 t.body.length c2) (fun q => q < W7.heap.size) W7
          (hx1.same (fun j hj => Nat.lt_of_lt_of_le hj.2 hb7.size) fun j hj => hb7.block j hj.2) (hx2.same (fun j hj => Nat.lt_of_lt_of_le hj.2 hb7.size) fun j hj => hb7.block j hj.2)
          (HW1.out.same (fun j hj => Nat.lt_of_lt_of_le hj.2 hb57.size) fun j hj => hb57.block j hj.2) (HW2.out.same (fun j hj => Nat.lt_of_lt_of_le hj.2 hb57.size) fun j hj => hb57.block j hj.2) (fun _ h => h)
        rw [(sameSn_iff t t).2 rfl] at hsame
        have HSM := Lib.hid hsame
        unfold snAgg at HSM
        have HX7 := Lib.hid (old_below HX6.out hb7)
        have H7 := Lib.hid (H6.out.next hb7)
        have HWW7 := Lib.hid hW7
        have HZ57 : Hid (gw < W7.heap.size) := Lib.hid (lt_of_heap HX7.out)
        obtain ⟨c0, c1', c2', c3, -, -, -, -, cz⟩ := sh_four HX6.out
        clear hx1 hx2 hb6 hb7 hb57 hsame hW7
        go_wp2_with fail
        rw [← HWW7.out]
        refine HSM.out.mono ?_
        rintro e w8 ⟨rfl, hb8⟩
        have H8' := Lib.hid (H7.out.next hb8)
        have HX8 := Lib.hid (old_below HX7.out hb8)
        clear hb8 c0 c1' c2' c3 cz
        obtain ⟨c0, c1', c2', c3, -, -, -, -, cz⟩ := sh_four HX8.out
        obtain ⟨q, hq, hq9, hq1, hq2⟩ := mod9_at up
        obtain ⟨x9, hx9⟩ : ∃ x, x = up.tmod 9 := ⟨_, rfl⟩
        rw [← hx9] at hq hq1 hq2
        have hx9' := hx9.symm
        have hti := HTI.out
        obtain ⟨hti1, hti2⟩ := hti
        clear hx9
        go_wp2_with fail
        obtain ⟨yi, hyi⟩ : ∃ y : Int, y = t.idx + 1 + (q : Int) := ⟨_, rfl⟩
        rw [← hyi]
        have hyi1 : t.idx < yi := by omega
        have hyi2 : 1 ≤ yi := by omega
        have hyi3 : yi ≤ 10000000010 := by omega
        have HYI : Hid (t.idx < yi ∧ 1 ≤ yi ∧ yi ≤ 10000000010) := Lib.hid ⟨hyi1, hyi2, hyi3⟩
        clear hyi hx9' hq hq1 hq2 hq9 hti1 hti2 c0 c1' c2' c3 cz hyi1
        refine (Snap_any yi 1 ⟨#[110, 101, 119]⟩ w8 (by decide)).mono ?_
        rintro e w9 ⟨u9, rfl, hb9, hr9⟩
        have H9 := Lib.hid (H8'.out.next hb9)
        have HXl8 : Hid (∀ j, X j → j < w8.heap.size) := Lib.hid H8'.out.ds.lt
        have HGS8 : Hid (gs < w8.heap.size) := Lib.hid H8'.out.lt
        have HR9 : Hid (RepB w9 (fun k => k < w9.heap.size ∧ ¬ X k ∧ k ≠ gs) [110, 101, 119] u9) := Lib.hid (hr9.weak fun j hj => ⟨hj.2, fun h => by have := HXl8.out j h; omega, by have := HGS8.out; omega⟩)
        obtain ⟨ya, yc, hu9, -⟩ := HR9.out.slice
        have hu9 : u9 = .slice ya 3 yc := hu9
        subst hu9
        have HXl9 : Hid (∀ j, X j → j < w9.heap.size) := Lib.hid H9.out.ds.lt
        have HGS9 : Hid (gs < w9.heap.size) := Lib.hid H9.out.lt
        unfold snAgg
        simp only
        obtain ⟨W10, hW10⟩ : ∃ W, W = w9.alloc (.cells #[.int .i64 yi, .int .i64 1, .slice none 0 0, .slice ya 3 yc] 53) := ⟨_, rfl⟩
        obtain ⟨gy, hgy⟩ : ∃ g, g = w9.heap.size := ⟨_, rfl⟩
        have hb10 : Below w9.heap.size w9 W10 := by rw [hW10]; exact below_alloc _ _
        have HY10 : Hid (W10.heap[gy]? = some (.cells #[.int .i64 yi, .int .i64 1, .slice none 0 0, .slice ya 3 yc] 53)) := Lib.hid (by rw [hW10, hgy]; exact heap_new _ _ _ rfl)
        have HGY : Hid (¬ X gy ∧ gy ≠ gs ∧ w9.heap.size ≤ gy) := Lib.hid ⟨fun h => by have := HXl9.out _ h; omega, by have := HGS9.out; omega, by omega⟩
        have H10 := Lib.hid (H9.out.next hb10)
        have HR10 : Hid (RepB W10 (fun k => k < W10.heap.size ∧ ¬ X k ∧ k ≠ gs ∧ k ≠ gy) [110, 101, 119] (.slice ya 3 yc)) := Lib.hid (HR9.out.same (fun j hj => ⟨Nat.lt_of_lt_of_le hj.1 hb10.size, hj.2.1, hj.2.2, by omega⟩) fun j hj => hb10.block j hj.1)
        have HW10 := Lib.hid hW10
        have Hgy := Lib.hid hgy
        clear hb9 hr9 hb10 hW10 hgy
        by_cases hmax : 10000000000 ≤ yi
        · have HC : Hid (Calls Tryz.prog 31 #[.pointer (some ⟨gs, 0, none⟩), .agg #[.int .i64 yi, .int .i64 1, .slice none 0 0, .slice ya 3 yc]] W10 fun e w' => e = .returned (.int .i64 2) ∧ ∃ X', (∀ k, X' k → X k ∨ W10.heap.size ≤ k) ∧ SS w0 X' gd gs d t w' ∧ Only (fun k => X k ∨ k = gs) W10 w') :=
            Lib.hid (H10.out.put (x := ⟨yi, 1, [], [110, 101, 119]⟩) (.inl ⟨rfl, Bare.nil⟩) (HR10.out.weak fun j hj => ⟨hj.1, hj.2.1⟩) (fun j hj => hj) (by simp) (by have := HUSED.out; omega) HT0 HP0 (putS_no (.inl (by unfold okSn; exact decide_eq_false (by simp only; omega)))))
          go_wp2_with fail
          rw [← HW10.out]
          refine HC.out.mono ?_
          rintro e w11 ⟨rfl, X11, -, h11, -⟩
          have HE : Hid (Below w.heap.size w w11) := Lib.hid (HB0.out.trans (h11.ds.below.mono HB0.out.size))
          clear h11
          go_wp2_with fail
          go_ret
          exact ⟨rfl, HE.out⟩
        · obtain ⟨d1, d2, hp1, hw1, hn1, hc1, hw2, hm1, hm2, hk2⟩ := newest_law HWE.out.1 HWE.out.2.1 HWE.out.2.2 HUSED.out.1 HUSED.out.2 (y := ⟨yi, 1, [], [110, 101, 119]⟩) (okSn_true (by simp only; omega)) (by rw [← HTT.out]; exact HYI.out.1) (by simp)
          rw [← HTT.out] at hp1
          have HC : Hid (Calls Tryz.prog 31 #[.pointer (some ⟨gs, 0, none⟩), .agg #[.int .i64 yi, .int .i64 1, .slice none 0 0, .slice ya 3 yc]] W10 fun e w' => e = .returned (.int .i64 0) ∧ ∃ X', (∀ k, X' k → X k ∨ W10.heap.size ≤ k) ∧ SS w0 X' gd gs d1 ⟨yi, 1, [], [110, 101, 119]⟩ w' ∧ Only (fun k => X k ∨ k = gs) W10 w') :=
            Lib.hid (H10.out.put (x := ⟨yi, 1, [], [110, 101, 119]⟩) (.inl ⟨rfl, Bare.nil⟩) (HR10.out.weak fun j hj => ⟨hj.1, hj.2.1⟩) (fun j hj => hj) (by simp) (by have := HUSED.out; omega) HT0 HP0 hp1)
          have HD1 : Hid (D.used d1.fs ≤ 1000000000 ∧ D.used d2.fs ≤ 100000 ∧ Well d2) := Lib.hid ⟨by have := hw1.used; omega, by have := hw2.used; omega, hw2⟩
          have HC1 := Lib.hid hc1
          have HK2 := Lib.hid hk2
          have HYN : Hid ((yi != 0) = true) := Lib.hid (by simp; omega)
          clear hp1 hw1 hn1 hc1 hw2 hm1 hm2 hk2
          go_wp2_with fail
          rw [← HW10.out, ← Hgy.out]
          refine HC.out.mono ?_
          rintro e w11 ⟨rfl, X11, hx11, h11, ho11⟩
          have H11 := Lib.hid h11
          have HY11 : Hid (w11.heap[gy]? = some (.cells #[.int .i64 yi, .int .i64 1, .slice none 0 0, .slice ya 3 yc] 53)) := Lib.hid ((ho11.block gy (lt_of_heap HY10.out) (by rintro (h | h); exact HGY.out.1 h; exact HGY.out.2.1 h)).trans HY10.out)
          have HR11 : Hid (RepB w11 (fun k => k < W10.heap.size ∧ ¬ X k ∧ k ≠ gs ∧ k ≠ gy) [110, 101, 119] (.slice ya 3 yc)) := Lib.hid (HR10.out.same (fun _ h => h) fun j hj => ho11.block j hj.1 (by rintro (h | h); exact hj.2.1 h; exact hj.2.2.1 h))
          have HX11 := Lib.hid hx11
          have HZ11 : Hid (W10.heap.size ≤ w11.heap.size) := Lib.hid ho11.size
          clear hx11 h11 ho11
          go_wp2_with fail
          have hcl := ShClean_any d1 X11 gd gs ⟨yi, 1, [], [110, 101, 119]⟩ w0 w11 H11.out HD1.out.1
          simp only at hcl
          rw [HC1.out] at hcl
          refine hcl.mono ?_
          clear hcl
          rintro e w12 ⟨rfl, X12, hx12, h12, ho12⟩
          have H12 := Lib.hid h12
          have HN12 : Hid (∀ j, j < W10.heap.size → ¬ X j → j ≠ gs → w12.heap[j]? = w11.heap[j]?) := Lib.hid fun j hj h1 h2 => ho12.block j (by have := HZ11.out; omega) (by
            rintro (h | h)
            · rcases HX11.out j h with h | h
              · exact h1 h
              · omega
            · exact h2 h)
          have HY12 : Hid (w12.heap[gy]? = some (.cells #[.int .i64 yi, .int .i64 1, .slice none 0 0, .slice ya 3 yc] 53)) := Lib.hid ((HN12.out gy (lt_of_heap HY10.out) HGY.out.1 HGY.out.2.1).trans HY11.out)
          have HR12 : Hid (RepB w12 (fun k => k < W10.heap.size ∧ ¬ X k ∧ k ≠ gs ∧ k ≠ gy) [110, 101, 119] (.slice ya 3 yc)) := Lib.hid (HR11.out.same (fun _ h => h) fun j hj => HN12.out j hj.1 hj.2.1 hj.2.2.1)
          have HZ12 : Hid (W10.heap.size ≤ w12.heap.size) := Lib.hid (Nat.le_trans HZ11.out ho12.size)
          clear hx12 h12 ho12
          go_wp2_with fail
          have htop := ShTop_any d2 X12 gd gs ⟨yi, 1, [], [110, 101, 119]⟩ w0 w12 H12.out (fun h => by simp only at h; omega)
          simp only at htop
          rw [HYN.out] at htop
          refine htop.mono ?_
          clear htop
          rintro e w13 ⟨z1, z2, rfl, hb13, hz1, hz2⟩
          obtain ⟨za, zc, hze, -⟩ := hz1.slice
          have hze : z1 = .slice za 0 zc := hze
          subst hze
          obtain ⟨zb, ze, hzf, -⟩ := hz2.slice
          have hzf : z2 = .slice zb 3 ze := hzf
          subst hzf
          obtain ⟨W14, hW14⟩ : ∃ W, W = w13.alloc (.cells #[.int .i64 yi, .int .i64 1, .slice za 0 zc, .slice zb 3 ze] 53) := ⟨_, rfl⟩
          obtain ⟨gz, hgz⟩ : ∃ g, g = w13.heap.size := ⟨_, rfl⟩
          have hb14 : Below w13.heap.size w13 W14 := by rw [hW14]; exact below_alloc _ _
          have hb24 : Below w12.heap.size w12 W14 := hb13.trans (hb14.mono hb13.size)
          have HZ14 : Hid (W14.heap[gz]? = some (.cells #[.int .i64 yi, .int .i64 1, .slice za 0 zc, .slice zb 3 ze] 53)) := Lib.hid (by rw [hW14, hgz]; exact heap_new _ _ _ rfl)
          have HY14 := Lib.hid (old_below HY12.out hb24)
          have H14 := Lib.hid (H12.out.next hb24)
          have HSA : Hid (∀ wx, Below W14.heap.size W14 wx → Calls Tryz.prog 25 #[.agg #[.int .i64 yi, .int .i64 1, .slice za 0 zc, .slice zb 3 ze], .agg #[.int .i64 yi, .int .i64 1, .slice none 0 0, .slice ya 3 yc]] wx fun e w' => e = .returned (.bool true) ∧ Below wx.heap.size wx w') := Lib.hid fun wx hbx => by
            have hzz := hb14.size
            have hs := Same6_any ⟨yi, 1, [], [110, 101, 119]⟩ ⟨yi, 1, [], [110, 101, 119]⟩ (.slice za 0 zc) (.slice zb 3 ze) (.slice none 0 0) (.slice ya 3 yc) (fun j => j < wx.heap.size) wx
              (hz1.same (fun j hj => Nat.lt_of_lt_of_le hj.2 (Nat.le_trans hzz hbx.size)) fun j hj => (hbx.block j (by omega)).trans (hb14.block j hj.2))
              (hz2.same (fun j hj => Nat.lt_of_lt_of_le hj.2 (Nat.le_trans hzz hbx.size)) fun j hj => (hbx.block j (by omega)).trans (hb14.block j hj.2))
              (.inl ⟨rfl, Bare.nil⟩)
              (HR12.out.same (fun j hj => by have := HZ12.out; have := hb24.size; have := hbx.size; omega) fun j hj => (hbx.block j (by have := HZ12.out; have := hb24.size; omega)).trans (hb24.block j (by have := HZ12.out; omega))) (fun _ h => h)
            rw [(sameSn_iff _ _).2 rfl] at hs
            exact hs
          have HW14 := Lib.hid hW14
          have HGZ := Lib.hid hgz
          unfold snAgg
          simp only
          clear hb13 hz1 hz2 hb14 hb24 hW14 hgz
          go_wp2_with fail
          rw [← HW14.out, ← HGZ.out]
          refine (Names_any d2 X12 gd W14 H14.out.ds.dsk H14.out.ds.fine.1 (by have := H14.out.ds.fine.2.2; omega)).mono ?_
          rintro e w15 ⟨vn, rfl, hb15, hrow⟩
          obtain ⟨sa, sc, hsv⟩ := owned_slice hrow
          subst hsv
          have HROW := Lib.hid hrow
          have H15 := Lib.hid (H14.out.next hb15)
          have HY15 := Lib.hid (old_below HY14.out hb15)
          have HZ15 := Lib.hid (old_below HZ14.out hb15)
          have HB15 := Lib.hid hb15
          have hn4 := H15.out.ds.fine.2.2
          clear hrow hb15
          go_wp2_with fail
          go_loopw [20, 22, 23, 24, 25, 26] (fun kp i _ _ _ _ wr => ∃ (m c : Nat), m ≤ d2.fs.length ∧ c ≤ m ∧ i = .int .i64 (m : Int) ∧ kp = .int .i64 (c : Int) ∧ Hid (c = ((d2.fs.take m).filter keptF).length) ∧ Hid (Below w15.heap.size w15 wr)) (fun _ i _ _ _ _ _ => d2.fs.length - (intOf i).toNat)
          case atStart => exact ⟨0, 0, Nat.zero_le _, Nat.le_refl _, rfl, rfl, Lib.hid rfl, Lib.hid (Below.refl _ _)⟩
          case round =>
            obtain ⟨m, c, hm, hcm, rfl, rfl, HCC, HBM⟩ := hrel
            by_cases hmd : m < d2.fs.length
            · have hmi : (m : Int) < (d2.fs.length : Int) := by omega
              obtain ⟨gl, hga, -, hgl, hcl⟩ := row_cell HROW.out m hmd
              subst hga
              obtain ⟨f, hf⟩ : ∃ f, f = d2.fs[m] := ⟨_, rfl⟩
              have hfm : f ∈ d2.fs := by rw [hf]; exact List.getElem_mem _
              rw [List.getElem?_map, List.getElem?_eq_getElem hmd, ← hf] at hcl
              replace hcl : w15.cell? ⟨gl, m, none⟩ = some (.string f.nm) := hcl
              have HBO : Hid (bytesOf d2.fs f.nm = f.b ∧ f.b.length ≤ 1000000) := Lib.hid (by
                unfold bytesOf
                rw [find_some H15.out.ds.fine.1 hfm]
                exact ⟨rfl, by have := D.used_mem hfm; have := HD1.out.2.1; omega⟩)
              have HNS := Lib.hid (H15.out.ds.fine.2.1 f hfm)
              have HNX : Hid (((d2.fs.take (m + 1)).filter keptF).length = c + (if keptF f then 1 else 0)) := Lib.hid (by
                rw [List.take_succ_eq_append_getElem hmd, List.filter_append, List.length_append, ← HCC.out, ← hf]
                cases h : keptF f <;> simp [h])
              have HR := Lib.hid (H15.out.next HBM.out)
              have hcm1 : wr.cell? ⟨gl, m, none⟩ = some (.string f.nm) := (World.cell?_of_block (a := ⟨gl, m, none⟩) (HBM.out.block gl hgl)).trans hcl
              have hglr : gl < wr.heap.size := Nat.lt_of_lt_of_le hgl HBM.out.size
              have hc4 : c ≤ 4096 := by omega
              have hm4 : m ≤ 4096 := by omega
              have HGL := Lib.hid hgl
              have HCL := Lib.hid hcl
              clear hf hfm hcl hgl
              go_wp2_with fail
              refine (PRead_any d2 X12 gd f.nm wr HR.out.ds.dsk HR.out.ds.fine.1 HNS.out (by have := HD1.out.2.1; omega)).mono ?_
              rintro e w16 ⟨v16, rfl, hown⟩
              rw [HBO.out.1] at hown
              have HOW := Lib.hid hown
              obtain ⟨va, vc, rfl⟩ := hown.slice
              clear hown hcm1 hglr
              go_wp2_with fail
              refine (RefParse_any f.b (fun j => j < w16.heap.size) _ w16 HOW.out.now (fun _ h => h) HBO.out.2).mono ?_
              intro e w17 hpp
              obtain ⟨hb17, b1, m1, k1, b2, m2, k2, rfl, -, -⟩ := hpp.ans
              have hcs := ans_cases f
              obtain ⟨A, hA⟩ : ∃ A, A = ansS (snParse f.b) := ⟨_, rfl⟩
              obtain ⟨E, hE⟩ : ∃ E, E = ansE (snParse f.b) := ⟨_, rfl⟩
              rw [← hA, ← hE] at hcs ⊢
              obtain ⟨W18, hW18⟩ : ∃ W, W = w17.alloc (.cells #[.int .i64 A.idx, .int .i64 A.term, .slice b1 m1 k1, .slice b2 m2 k2] 53) := ⟨_, rfl⟩
              obtain ⟨gx, hgx⟩ : ∃ g, g = w17.heap.size := ⟨_, rfl⟩
              have hb18 : Below w17.heap.size w17 W18 := by rw [hW18]; exact below_alloc _ _
              have hx18 : W18.heap[gx]? = some (.cells #[.int .i64 A.idx, .int .i64 A.term, .slice b1 m1 k1, .slice b2 m2 k2] 53) := by rw [hW18, hgx]; exact heap_new _ _ _ rfl
              have hbr8 : Below wr.heap.size wr W18 := HOW.out.1.trans ((hb17.trans (hb18.mono hb17.size)).mono HOW.out.1.size)
              have hb58 : Below w15.heap.size w15 W18 := HBM.out.trans (hbr8.mono HBM.out.size)
              have HB58 := Lib.hid hb58
              have hc18 : W18.cell? ⟨gl, m, none⟩ = some (.string f.nm) := (World.cell?_of_block (a := ⟨gl, m, none⟩) (hb58.block gl HGL.out)).trans HCL.out
              have hgl18 : gl < W18.heap.size := Nat.lt_of_lt_of_le HGL.out hb58.size
              have HW18 := Lib.hid hW18
              have Hgx := Lib.hid hgx
              obtain ⟨c0, -, -, -, -, -, -, -, cz⟩ := sh_four hx18
              have r0 : ∀ w', Below W18.heap.size W18 w' → w'.cell? ⟨gl, m, none⟩ = some (.string f.nm) := fun w' hw' => (hw'.cell hgl18).trans hc18
              have r1 : ∀ w', Below W18.heap.size W18 w' → w'.cell? ⟨gx, 0, none⟩ = some (.int .i64 A.idx) := fun w' hw' => (hw'.cell cz).trans c0
              have hS : Below W18.heap.size W18 W18.drew := (Below.refl _ _).drew
              clear hpp hb17 hb18 hx18 hbr8 hb58 hc18 hgl18 c0 cz hW18 hgx hA hE
              have HCS := Lib.hid hcs
              have R1 := Lib.hid r1
              clear hcs r1
              go_wp2_with fail
              rw [← HW18.out, ← Hgx.out]
              refine wp_region_held (S := fun w' => Below W18.heap.size W18 w') (by kernel_rfl) ?_
              rcases HCS.out with ⟨h0, hkf⟩ | ⟨h0, n, hn, hn9, hkf⟩
              · have HKF := Lib.hid hkf
                clear hkf
                have q3 : (E == 0) = false := beq_eq_false_iff_ne.2 h0
                have q4 : decide (E = 0) = false := decide_eq_false h0
                refine H_take (i := 0) (v := ?_) rfl (by as_aux_lemma => kernel_rfl) (by as_aux_lemma => kernel_rfl) (by as_aux_lemma => kernel_rfl) (fun _ _ _ h => h) (by rfl) hS ?_ ?_
                rotate_left
                · intro w' hw'; go_simp; with_reducible rfl
                go_simp
                refine H_take (i := 1) (v := ?_) rfl (by as_aux_lemma => kernel_rfl) (by as_aux_lemma => kernel_rfl) (by as_aux_lemma => kernel_rfl) (fun _ _ _ h => h) (by rfl) hS ?_ ?_
                rotate_left
                · intro w' hw'; go_simp; with_reducible rfl
                go_simp
                refine H_take (i := 2) (v := ?_) rfl (by as_aux_lemma => kernel_rfl) (by as_aux_lemma => kernel_rfl) (by as_aux_lemma => kernel_rfl) (fun _ _ _ h => h) (by rfl) hS ?_ ?_
                rotate_left
                · intro w' hw'; go_simp; with_reducible rfl
                go_simp
                refine H_skip (i := 3) rfl (by as_aux_lemma => kernel_rfl) (by as_aux_lemma => kernel_rfl) (by as_aux_lemma => kernel_rfl) (fun _ _ _ h => h) (by rfl) hS ?_
                go_simp
                refine H_skip (i := 4) rfl (by as_aux_lemma => kernel_rfl) (by as_aux_lemma => kernel_rfl) (by as_aux_lemma => kernel_rfl) (fun _ _ _ h => h) (by rfl) hS ?_
                go_simp
                refine H_skip (i := 5) rfl (by as_aux_lemma => kernel_rfl) (by as_aux_lemma => kernel_rfl) (by as_aux_lemma => kernel_rfl) (fun _ _ _ h => h) (by rfl) hS ?_
                go_simp
                refine H_skip (i := 6) rfl (by as_aux_lemma => kernel_rfl) (by as_aux_lemma => kernel_rfl) (by as_aux_lemma => kernel_rfl) (fun _ _ _ h => h) (by rfl) hS ?_
                go_simp
                refine H_skip (i := 7) rfl (by as_aux_lemma => kernel_rfl) (by as_aux_lemma => kernel_rfl) (by as_aux_lemma => kernel_rfl) (fun _ _ _ h => h) (by rfl) hS ?_
                go_simp
                refine H_skip (i := 8) rfl (by as_aux_lemma => kernel_rfl) (by as_aux_lemma => kernel_rfl) (by as_aux_lemma => kernel_rfl) (fun _ _ _ h => h) (by rfl) hS ?_
                go_simp
                refine H_skip (i := 9) rfl (by as_aux_lemma => kernel_rfl) (by as_aux_lemma => kernel_rfl) (by as_aux_lemma => kernel_rfl) (fun _ _ _ h => h) (by rfl) hS ?_
                go_simp
                refine H_skip (i := 10) rfl (by as_aux_lemma => kernel_rfl) (by as_aux_lemma => kernel_rfl) (by as_aux_lemma => kernel_rfl) (fun _ _ _ h => h) (by rfl) hS ?_
                go_simp
                refine H_skip (i := 11) rfl (by as_aux_lemma => kernel_rfl) (by as_aux_lemma => kernel_rfl) (by as_aux_lemma => kernel_rfl) (fun _ _ _ h => h) (by rfl) hS ?_
                go_simp
                refine H_take (i := 12) (v := ?_) rfl (by as_aux_lemma => kernel_rfl) (by as_aux_lemma => kernel_rfl) (by as_aux_lemma => kernel_rfl) (fun _ _ _ h => h) (by rfl) hS ?_ ?_
                rotate_left
                · intro w' hw'; go_simp; with_reducible rfl
                go_simp
                refine wpAnyH_done (by as_aux_lemma => kernel_rfl) ?_ _
                have HBN : Hid (Below w15.heap.size w15 W18.drew) := Lib.hid HB58.out.drew
                clear r0 hS h0 q3 q4
                go_wp2_with fail
                go_roundw
                case rel => exact ⟨m + 1, c, by omega, by omega, by go_num, rfl, Lib.hid (by rw [HNX.out, HKF.out]; simp), HBN⟩
                case measure => simp [intOf]; omega
              · subst h0
                have r1 := R1.out
                rw [hn] at r1
                obtain ⟨sn, hsn⟩ : ∃ sn, sn = snName (n : Int) := ⟨_, rfl⟩
                rw [← hsn] at hkf
                have HSN := Lib.hid hsn
                have HN9 := Lib.hid hn9
                clear hsn hn9
                cases hkv : keptF f with
                | true =>
                  rw [hkv] at hkf
                  have HKE := Lib.hid hkf.symm
                  have HKF := Lib.hid hkv
                  clear hkv hkf hn
                  refine H_take (i := 0) (v := ?_) rfl (by as_aux_lemma => kernel_rfl) (by as_aux_lemma => kernel_rfl) (by as_aux_lemma => kernel_rfl) (fun _ _ _ h => h) (by rfl) hS ?_ ?_
                  rotate_left
                  · intro w' hw'; go_simp; with_reducible rfl
                  go_simp
                  refine H_take (i := 1) (v := ?_) rfl (by as_aux_lemma => kernel_rfl) (by as_aux_lemma => kernel_rfl) (by as_aux_lemma => kernel_rfl) (fun _ _ _ h => h) (by rfl) hS ?_ ?_
                  rotate_left
                  · intro w' hw'; go_simp; with_reducible rfl
                  go_simp
                  refine H_take (i := 2) (v := ?_) rfl (by as_aux_lemma => kernel_rfl) (by as_aux_lemma => kernel_rfl) (by as_aux_lemma => kernel_rfl) (fun _ _ _ h => h) (by rfl) hS ?_ ?_
                  rotate_left
                  · intro w' hw'; go_simp; with_reducible rfl
                  go_simp
                  refine H_take (i := 3) (v := ?_) rfl (by as_aux_lemma => kernel_rfl) (by as_aux_lemma => kernel_rfl) (by as_aux_lemma => kernel_rfl) (fun _ _ _ h => h) (by rfl) hS ?_ ?_
                  rotate_left
                  · intro w' hw'; go_simp; with_reducible rfl
                  go_simp
                  refine H_take (i := 4) (v := ?_) rfl (by as_aux_lemma => kernel_rfl) (by as_aux_lemma => kernel_rfl) (by as_aux_lemma => kernel_rfl) (fun _ _ _ h => h) (by rfl) hS ?_ ?_
                  rotate_left
                  · intro w' hw'; go_simp; with_reducible rfl
                  go_simp
                  refine H_take (i := 5) (v := ?_) rfl (by as_aux_lemma => kernel_rfl) (by as_aux_lemma => kernel_rfl) (by as_aux_lemma => kernel_rfl) (fun _ _ _ h => h) (by rfl) hS ?_ ?_
                  rotate_left
                  · intro w' hw'; go_simp; with_reducible rfl
                  go_simp
                  refine H_take (i := 6) (v := ?_) rfl (by as_aux_lemma => kernel_rfl) (by as_aux_lemma => kernel_rfl) (by as_aux_lemma => kernel_rfl) (fun _ _ _ h => h) (by rfl) hS ?_ ?_
                  rotate_left
                  · intro w' hw'; go_simp; with_reducible rfl
                  go_simp
                  refine H_take (i := 7) (v := ?_) rfl (by as_aux_lemma => kernel_rfl) (by as_aux_lemma => kernel_rfl) (by as_aux_lemma => kernel_rfl) (fun _ _ _ h => h) (by rfl) hS ?_ ?_
                  rotate_left
                  · intro w' hw'; go_simp; with_reducible rfl
                  go_simp
                  refine H_take (i := 8) (v := ?_) rfl (by as_aux_lemma => kernel_rfl) (by as_aux_lemma => kernel_rfl) (by as_aux_lemma => kernel_rfl) (fun _ _ _ h => h) (by rfl) hS ?_ ?_
                  rotate_left
                  · intro w' hw'; go_simp; with_reducible rfl
                  go_simp
                  refine H_take (i := 9) (v := ?_) rfl (by as_aux_lemma => kernel_rfl) (by as_aux_lemma => kernel_rfl) (by as_aux_lemma => kernel_rfl) (fun _ _ _ h => h) (by rfl) hS ?_ ?_
                  rotate_left
                  · intro w' hw'; go_simp; with_reducible rfl
                  go_simp
                  refine H_one (i := 10) (by as_aux_lemma => kernel_rfl) rfl (by rfl) ?_
                  go_simp
                  refine (RefName6_any n _ HN9.out).mono ?_
                  rintro e w19 ⟨rfl, rfl⟩
                  rw [← HSN.out]
                  refine ⟨hS, ?_⟩
                  go_simp
                  have hkf := HKE.out
                  refine H_take (i := 11) (v := ?_) rfl (by as_aux_lemma => kernel_rfl) (by as_aux_lemma => kernel_rfl) (by as_aux_lemma => kernel_rfl) (fun _ _ _ h => h) (by rfl) hS ?_ ?_
                  rotate_left
                  · intro w' hw'; go_simp; with_reducible rfl
                  go_simp
                  refine H_take (i := 12) (v := ?_) rfl (by as_aux_lemma => kernel_rfl) (by as_aux_lemma => kernel_rfl) (by as_aux_lemma => kernel_rfl) (fun _ _ _ h => h) (by rfl) hS ?_ ?_
                  rotate_left
                  · intro w' hw'; go_simp; with_reducible rfl
                  go_simp
                  refine wpAnyH_done (by as_aux_lemma => kernel_rfl) ?_ _
                  have HBN : Hid (Below w15.heap.size w15 W18.drew) := Lib.hid HB58.out.drew
                  clear r0 r1 hS hkf
                  go_wp2_with fail
                  go_roundw
                  case rel => exact ⟨m + 1, c + 1, by omega, by omega, by go_num, by go_num, Lib.hid (by rw [HNX.out, HKF.out]; simp), HBN⟩
                  case measure => simp [intOf]; omega
                | false =>
                  rw [hkv] at hkf
                  have HKE := Lib.hid hkf.symm
                  have HKF := Lib.hid hkv
                  clear hkv hkf hn
                  refine H_take (i := 0) (v := ?_) rfl (by as_aux_lemma => kernel_rfl) (by as_aux_lemma => kernel_rfl) (by as_aux_lemma => kernel_rfl) (fun _ _ _ h => h) (by rfl) hS ?_ ?_
                  rotate_left
                  · intro w' hw'; go_simp; with_reducible rfl
                  go_simp
                  refine H_take (i := 1) (v := ?_) rfl (by as_aux_lemma => kernel_rfl) (by as_aux_lemma => kernel_rfl) (by as_aux_lemma => kernel_rfl) (fun _ _ _ h => h) (by rfl) hS ?_ ?_
                  rotate_left
                  · intro w' hw'; go_simp; with_reducible rfl
                  go_simp
                  refine H_take (i := 2) (v := ?_) rfl (by as_aux_lemma => kernel_rfl) (by as_aux_lemma => kernel_rfl) (by as_aux_lemma => kernel_rfl) (fun _ _ _ h => h) (by rfl) hS ?_ ?_
                  rotate_left
                  · intro w' hw'; go_simp; with_reducible rfl
                  go_simp
                  refine H_take (i := 3) (v := ?_) rfl (by as_aux_lemma => kernel_rfl) (by as_aux_lemma => kernel_rfl) (by as_aux_lemma => kernel_rfl) (fun _ _ _ h => h) (by rfl) hS ?_ ?_
                  rotate_left
                  · intro w' hw'; go_simp; with_reducible rfl
                  go_simp
                  refine H_take (i := 4) (v := ?_) rfl (by as_aux_lemma => kernel_rfl) (by as_aux_lemma => kernel_rfl) (by as_aux_lemma => kernel_rfl) (fun _ _ _ h => h) (by rfl) hS ?_ ?_
                  rotate_left
                  · intro w' hw'; go_simp; with_reducible rfl
                  go_simp
                  refine H_take (i := 5) (v := ?_) rfl (by as_aux_lemma => kernel_rfl) (by as_aux_lemma => kernel_rfl) (by as_aux_lemma => kernel_rfl) (fun _ _ _ h => h) (by rfl) hS ?_ ?_
                  rotate_left
                  · intro w' hw'; go_simp; with_reducible rfl
                  go_simp
                  refine H_take (i := 6) (v := ?_) rfl (by as_aux_lemma => kernel_rfl) (by as_aux_lemma => kernel_rfl) (by as_aux_lemma => kernel_rfl) (fun _ _ _ h => h) (by rfl) hS ?_ ?_
                  rotate_left
                  · intro w' hw'; go_simp; with_reducible rfl
                  go_simp
                  refine H_take (i := 7) (v := ?_) rfl (by as_aux_lemma => kernel_rfl) (by as_aux_lemma => kernel_rfl) (by as_aux_lemma => kernel_rfl) (fun _ _ _ h => h) (by rfl) hS ?_ ?_
                  rotate_left
                  · intro w' hw'; go_simp; with_reducible rfl
                  go_simp
                  refine H_take (i := 8) (v := ?_) rfl (by as_aux_lemma => kernel_rfl) (by as_aux_lemma => kernel_rfl) (by as_aux_lemma => kernel_rfl) (fun _ _ _ h => h) (by rfl) hS ?_ ?_
                  rotate_left
                  · intro w' hw'; go_simp; with_reducible rfl
                  go_simp
                  refine H_take (i := 9) (v := ?_) rfl (by as_aux_lemma => kernel_rfl) (by as_aux_lemma => kernel_rfl) (by as_aux_lemma => kernel_rfl) (fun _ _ _ h => h) (by rfl) hS ?_ ?_
                  rotate_left
                  · intro w' hw'; go_simp; with_reducible rfl
                  go_simp
                  refine H_one (i := 10) (by as_aux_lemma => kernel_rfl) rfl (by rfl) ?_
                  go_simp
                  refine (RefName6_any n _ HN9.out).mono ?_
                  rintro e w19 ⟨rfl, rfl⟩
                  rw [← HSN.out]
                  refine ⟨hS, ?_⟩
                  go_simp
                  have hkf := HKE.out
                  refine H_take (i := 11) (v := ?_) rfl (by as_aux_lemma => kernel_rfl) (by as_aux_lemma => kernel_rfl) (by as_aux_lemma => kernel_rfl) (fun _ _ _ h => h) (by rfl) hS ?_ ?_
                  rotate_left
                  · intro w' hw'; go_simp; with_reducible rfl
                  go_simp
                  refine H_take (i := 12) (v := ?_) rfl (by as_aux_lemma => kernel_rfl) (by as_aux_lemma => kernel_rfl) (by as_aux_lemma => kernel_rfl) (fun _ _ _ h => h) (by rfl) hS ?_ ?_
                  rotate_left
                  · intro w' hw'; go_simp; with_reducible rfl
                  go_simp
                  refine wpAnyH_done (by as_aux_lemma => kernel_rfl) ?_ _
                  have HBN : Hid (Below w15.heap.size w15 W18.drew) := Lib.hid HB58.out.drew
                  clear r0 r1 hS hkf
                  go_wp2_with fail
                  go_roundw
                  case rel => exact ⟨m + 1, c, by omega, by omega, by go_num, rfl, Lib.hid (by rw [HNX.out, HKF.out]; simp), HBN⟩
                  case measure => simp [intOf]; omega
            · have hmi : ¬ (m : Int) < (d2.fs.length : Int) := by omega
              have hme : m = d2.fs.length := by omega
              have hc1 : c = 1 := by rw [HCC.out, hme, List.take_length]; exact HK2.out
              subst hc1
              have hzr := old_below HZ15.out HBM.out
              have hyr := old_below HY15.out HBM.out
              obtain ⟨c0, c1', c2', c3, -, -, -, -, cz⟩ := sh_four hzr
              obtain ⟨e0, e1, e2, e3, -, -, -, -, ez⟩ := sh_four hyr
              have HSC := Lib.hid (HSA.out wr (HB15.out.trans (HBM.out.mono HB15.out.size)))
              have HE : Hid (Below w.heap.size w wr) := Lib.hid (HB0.out.trans ((H15.out.next HBM.out).ds.below.mono HB0.out.size))
              clear hzr hyr hme
              go_wp2_with fail
              refine HSC.out.mono ?_
              rintro e w16 ⟨rfl, hb16⟩
              have HE2 : Hid (Below w.heap.size w w16) := Lib.hid (HE.out.trans (hb16.mono HE.out.size))
              clear hb16 c0 c1' c2' c3 cz e0 e1 e2 e3 ez
              go_wp2_with fail
              go_ret
              exact ⟨rfl, HE2.out⟩
end Go.Proofs.YtbcpcopapbgcdaaGreatDoor.M

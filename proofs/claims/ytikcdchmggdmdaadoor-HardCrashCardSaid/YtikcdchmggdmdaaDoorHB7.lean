/- Package hard: a slot read. Package hard: the newest slot, what a disk has, what is opened. The document's examples, as law 3's statements begin with them. Package hard: a slot written anew. Package hard: Save. -/
import Derived.Test.YtikcdchmggdmdaaDoorHB6
import Derived.Laws.Cover3
import Derived.Deep.QuietTactic
import Derived.Test.YtikcdchmggdmdaaDoorHB4
import Derived.Lib.SlBytesConst
/- Part: PHard3. -/
namespace Go.Proofs.YtikcdchmggdmdaaDoor.M
open Go.RowKit Go.Maps
open D (Fl Dk)

/-- What a read answers: a slot that isn't whole is nobody's. -/
def pslot (L : List UInt8) : Nat × (Int × Int) := if (slot L).1 = 0 then (0, (0, -1)) else slot L

theorem take_row (b : List UInt8) : takeAt nmRow.data.toList b = match three b with
    | .error e => .error e
    | .ok ((x, y, z), []) => .ok (rowOf x y z)
    | .ok (_, _ :: _) => .error 12 := by
  unfold takeAt
  rw [shape_row]
  simp only [takeV, takeVs]
  unfold three
  cases h1 : takeNum b with
  | error e => rfl
  | ok p =>
    obtain ⟨x, b1⟩ := p
    simp only
    cases h2 : takeNum b1 with
    | error e => rfl
    | ok p =>
      obtain ⟨y, b2⟩ := p
      simp only
      cases h3 : takeNum b2 with
      | error e => rfl
      | ok p =>
        obtain ⟨z, b3⟩ := p
        cases b3 <;> rfl

theorem takeNum_err {b : List UInt8} {e : Int} (h : takeNum b = .error e) : e = 11 ∨ e = 13 := by
  cases b with
  | nil => rw [takeNum] at h; cases h; exact .inl rfl
  | cons c r =>
    rw [takeNum] at h
    split at h
    · cases h; exact .inr rfl
    · split at h
      · cases h; exact .inr rfl
      · split at h
        · cases h; exact .inl rfl
        · cases h

theorem three_err {b : List UInt8} {e : Int} (h : three b = .error e) : e = 11 ∨ e = 13 := by
  unfold three at h
  cases h1 : takeNum b with
  | error e => rw [h1] at h; cases h; exact takeNum_err h1
  | ok p =>
    obtain ⟨x, b1⟩ := p
    rw [h1] at h
    simp only at h
    cases h2 : takeNum b1 with
    | error e => rw [h2] at h; cases h; exact takeNum_err h2
    | ok p =>
      obtain ⟨y, b2⟩ := p
      rw [h2] at h
      simp only at h
      cases h3 : takeNum b2 with
      | error e => rw [h3] at h; cases h; exact takeNum_err h3
      | ok p => rw [h3] at h; cases h

/-- What Take answers of bytes behind a sum. -/
theorem takeAt_err {b : List UInt8} {e : Int} (h : takeAt nmRow.data.toList b = .error e) : (e == 0) = false := by
  rw [take_row] at h
  cases h3 : three b with
  | error c => rw [h3] at h; cases h; rcases three_err h3 with rfl | rfl <;> rfl
  | ok p =>
    obtain ⟨⟨x, y, z⟩, q⟩ := p
    rw [h3] at h
    cases q with
    | nil => cases h
    | cons a q => cases h; rfl

theorem pslot_none {L : List UInt8} {x y z : Nat} (h : slot L = if x < top ∧ y < top ∧ z ≤ top then (x, ((y : Int), (z : Int) - 1)) else (0, (0, 0))) (h2 : x < 1 ∨ top ≤ x ∨ top ≤ y ∨ top < z) : pslot L = (0, (0, -1)) := by
  have h1 : (slot L).1 = 0 := by
    rw [h]
    split
    · rename_i h3; simp only; omega
    · rfl
  unfold pslot
  rw [if_pos h1]

theorem pslot_some {L : List UInt8} {x y z : Nat} (h : slot L = if x < top ∧ y < top ∧ z ≤ top then (x, ((y : Int), (z : Int) - 1)) else (0, (0, 0))) (h2 : 1 ≤ x ∧ x < top ∧ y < top ∧ z ≤ top) : pslot L = (x, ((y : Int), (z : Int) - 1)) := by
  rw [if_pos h2.2] at h
  unfold pslot
  rw [h, if_neg (by simp only; omega)]

theorem rep_three {w : World} {F : Nat → Prop} {x y z : Nat} {v : Value} (h : RepVl w F [.mk x [] [], .mk y [] [], .mk z [] []] v) :
    ∃ b off c, v = .slice (some ⟨b, off, none⟩) 3 c ∧ F b ∧ x < 18446744073709551616 ∧ y < 18446744073709551616 ∧ z < 18446744073709551616 ∧
      w.cell? ⟨b, off, none⟩ = some (.int .u64 (x : Int)) ∧ w.cell? ⟨b, off + 3, none⟩ = some (.int .u64 (y : Int)) ∧ w.cell? ⟨b, off + 6, none⟩ = some (.int .u64 (z : Int)) := by
  rcases h with ⟨h, -⟩ | ⟨b, off, c, hv, hb, h1, h2, hl⟩
  · cases h
  · have one : ∀ (n : Nat) (o : Nat) (u : Value), At3 w b o u → RepV w F (.mk n [] []) u → n < 18446744073709551616 ∧ w.cell? ⟨b, o, none⟩ = some (.int .u64 (n : Int)) := fun n o u ha hr => by
      obtain ⟨p, q, r, rfl, a0, -, -⟩ := ha
      obtain ⟨vb, vl, he, hn, -, -⟩ := RepV_mk.1 hr
      simp only [Value.agg.injEq, Array.mk.injEq, List.cons.injEq] at he
      exact ⟨hn, by rw [a0, he.1]⟩
    obtain ⟨u0, a0, r0⟩ := RepVs.get _ hl 0 (by simp)
    obtain ⟨u1, a1, r1⟩ := RepVs.get _ hl 1 (by simp)
    obtain ⟨u2, a2, r2⟩ := RepVs.get _ hl 2 (by simp)
    have e0 := one x _ _ a0 r0
    have e1 := one y _ _ a1 r1
    have e2 := one z _ _ a2 r2
    exact ⟨b, off, c, hv, hb, e0.1, e1.1, e2.1, e0.2, e1.2, e2.2⟩

theorem four_test {L : List UInt8} {cs : Nat} (hc : cs < 4294967296) (h4 : 4 ≤ L.length) :
    ((cs : Int) / (16777216 : Int) == (L[0].toNat : Int) && ((cs : Int) / (65536 : Int) % (256 : Int) == (L[1].toNat : Int) && ((cs : Int) / (256 : Int) % (256 : Int) == (L[2].toNat : Int) && (cs : Int) % (256 : Int) == (L[3].toNat : Int)))) = decide (L.take 4 = four cs) := by
  match L, h4 with
  | a :: b :: c :: d :: r, _ =>
    have ha := a.toNat_lt
    have hb := b.toNat_lt
    have hcc := c.toNat_lt
    have hd := d.toNat_lt
    rw [Bool.eq_iff_iff]
    simp only [Bool.and_eq_true, beq_iff_eq, decide_eq_true_eq, List.getElem_cons_zero, List.getElem_cons_succ, List.take_succ_cons, List.take_zero, four, List.cons.injEq, and_true, ← UInt8.toNat_inj, UInt8.toNat_ofNat']
    omega

theorem bytes_le (fs : List Fl) (s : ByteArray) : (bytesOf fs s).length ≤ D.used fs := by
  unfold bytesOf
  cases h : fs.find? (fun f => decide (f.nm = s)) with
  | none => simp
  | some f => exact D.used_mem (List.mem_of_find?_eq_some h)

theorem RepB.drop4 {w : World} {F : Nat → Prop} {L : List UInt8} {g c : Nat} (hF : F g) (hc : ∀ (j : Nat) (hj : j < L.length), w.cell? ⟨g, j, none⟩ = some (.int .u8 (L[j].toNat : Int))) (h4 : 4 ≤ L.length) (hl : L.length ≤ c) (hm : c ≤ 9223372036854775807) :
    RepB w F (L.drop 4) (.slice (if c = 4 then some ⟨g, 0, none⟩ else some ⟨g, 4, none⟩) (L.length - 4) (c - 4)) := by
  by_cases h : c = 4
  · rw [if_pos h]
    have e : L.length = 4 := by omega
    refine .inl ⟨List.drop_of_length_le (by omega), _, c - 4, by rw [e], by omega, fun h => by cases h⟩
  · rw [if_neg h]
    refine .inr ⟨g, 4, c - 4, by rw [List.length_drop], hF, by rw [List.length_drop]; omega, by omega, fun i hi => ?_⟩
    have := hc (4 + i) (by rw [List.length_drop] at hi; omega)
    rw [this]
    simp

set_option maxRecDepth 20000 in
set_option maxHeartbeats 6400000 in
theorem read_any (d : Dk) (X : Nat → Prop) (gd : Nat) (s : ByteArray) (w : World) (hd : PDskIn w X gd d) (hr : D.Rising d.fs) (hs : s.size ≤ 9223372036854775807) (hu : D.used d.fs ≤ 1099511627776) (hT : Hid (Tab w)) :
    Calls Tryd.prog 22 #[.pointer (some ⟨gd, 0, none⟩), .string s] w fun e w' => e = .returned (slotV (pslot (bytesOf d.fs s)).1 (pslot (bytesOf d.fs s)).2) ∧ Below w.heap.size w w' := by
  obtain ⟨L, hL⟩ : ∃ L, L = bytesOf d.fs s := ⟨_, rfl⟩
  have hLl : L.length ≤ 1099511627776 := by
    rw [hL]
    exact Nat.le_trans (bytes_le d.fs s) hu
  have HLL := Lib.hid hLl
  obtain ⟨W, hW⟩ : ∃ W, W = w.alloc (.cells #[.int .i64 0, .int .i64 0, .int .i64 0] 55) := ⟨_, rfl⟩
  have HB1 : Hid (Below w.heap.size w W) := Lib.hid (by rw [hW]; exact below_alloc _ _)
  have hcall := PRead_any d X gd s W (hd.next (by rw [hW]; exact below_alloc _ _)) hr hs (by omega)
  rw [← hL] at hcall ⊢
  have HCALL := Lib.hid hcall
  have HW := Lib.hid hW
  have hbox : W.heap[w.heap.size]? = some (.cells #[.int .i64 0, .int .i64 0, .int .i64 0] 55) := by rw [hW]; exact heap_new _ _ _ rfl
  have HBOX := Lib.hid hbox
  clear hd hr hs hu hL hW hcall hbox hLl
  go_enter Tryd.func22, Tryd.ntmps22
  go_wp2_with fail
  rw [← HW.out]
  refine HCALL.out.mono ?_
  rintro e w1 ⟨v, rfl, hown⟩
  have HO := Lib.hid hown
  obtain ⟨va, vc, rfl⟩ := hown.slice
  have hbox1 : w1.heap[w.heap.size]? = some (.cells #[.int .i64 0, .int .i64 0, .int .i64 0] 55) := old_below HBOX.out hown.1
  have HX1 := Lib.hid hbox1
  have HB2 : Hid (Below w.heap.size w w1) := Lib.hid (HB1.out.trans (HO.out.1.mono HB1.out.size))
  clear hown hbox1
  by_cases h4 : L.length < 4
  · have h4i : (L.length : Int) < 4 := by omega
    have HP : Hid (pslot L = (0, (0, -1))) := Lib.hid (by unfold pslot slot; rw [if_pos h4]; rfl)
    clear h4
    have hS : Below w1.heap.size w1 w1.drew := (Below.refl _ _).drew
    go_wp2_with fail
    refine wp_region_held (S := fun w' => Below w1.heap.size w1 w') (by kernel_rfl) ?_
    refine H_take (i := 0) (v := ?_) rfl (by as_aux_lemma => kernel_rfl) (by as_aux_lemma => kernel_rfl) (by as_aux_lemma => kernel_rfl) (fun _ _ _ h => h) (by rfl) hS ?_ ?_
    rotate_left
    · intro w' hw'; go_simp; with_reducible rfl
    go_simp
    refine H_take (i := 1) (v := ?_) rfl (by as_aux_lemma => kernel_rfl) (by as_aux_lemma => kernel_rfl) (by as_aux_lemma => kernel_rfl) (fun _ _ _ h => h) (by rfl) hS ?_ ?_
    rotate_left
    · intro w' hw'; go_simp; with_reducible rfl
    go_simp
    refine H_take (i := 2) (v := ?_) rfl (by as_aux_lemma => kernel_rfl) (by as_aux_lemma => kernel_rfl) (by as_aux_lemma => kernel_rfl) (fun _ _ _ h => h) (by rfl) hS ?_ ?_
    rotate_left
    · intro w' hw'; go_simp; with_reducible rfl
    go_simp
    refine H_take (i := 3) (v := ?_) rfl (by as_aux_lemma => kernel_rfl) (by as_aux_lemma => kernel_rfl) (by as_aux_lemma => kernel_rfl) (fun _ _ _ h => h) (by rfl) hS ?_ ?_
    rotate_left
    · intro w' hw'; go_simp; with_reducible rfl
    go_simp
    refine H_skip (i := 4) rfl (by as_aux_lemma => kernel_rfl) (by as_aux_lemma => kernel_rfl) (by as_aux_lemma => kernel_rfl) (fun _ _ _ h => h) (by rfl) hS ?_
    go_simp
    refine H_skip (i := 5) rfl (by as_aux_lemma => kernel_rfl) (by as_aux_lemma => kernel_rfl) (by as_aux_lemma => kernel_rfl) (fun _ _ _ h => h) (by rfl) hS ?_
    go_simp
    refine H_skip (i := 6) rfl (by as_aux_lemma => kernel_rfl) (by as_aux_lemma => kernel_rfl) (by as_aux_lemma => kernel_rfl) (fun _ _ _ h => h) (by rfl) hS ?_
    go_simp
    refine H_skip (i := 7) rfl (by as_aux_lemma => kernel_rfl) (by as_aux_lemma => kernel_rfl) (by as_aux_lemma => kernel_rfl) (fun _ _ _ h => h) (by rfl) hS ?_
    go_simp
    refine H_skip (i := 8) rfl (by as_aux_lemma => kernel_rfl) (by as_aux_lemma => kernel_rfl) (by as_aux_lemma => kernel_rfl) (fun _ _ _ h => h) (by rfl) hS ?_
    go_simp
    refine H_skip (i := 9) rfl (by as_aux_lemma => kernel_rfl) (by as_aux_lemma => kernel_rfl) (by as_aux_lemma => kernel_rfl) (fun _ _ _ h => h) (by rfl) hS ?_
    go_simp
    refine H_skip (i := 10) rfl (by as_aux_lemma => kernel_rfl) (by as_aux_lemma => kernel_rfl) (by as_aux_lemma => kernel_rfl) (fun _ _ _ h => h) (by rfl) hS ?_
    go_simp
    refine H_take (i := 11) (v := ?_) rfl (by as_aux_lemma => kernel_rfl) (by as_aux_lemma => kernel_rfl) (by as_aux_lemma => kernel_rfl) (fun _ _ _ h => h) (by rfl) hS ?_ ?_
    rotate_left
    · intro w' hw'; go_simp; with_reducible rfl
    go_simp
    refine wpAnyH_done (by as_aux_lemma => kernel_rfl) ?_ _
    clear hS
    go_wp2_with fail
    refine (none_any _).mono ?_
    rintro e w2 ⟨rfl, hb2⟩
    have hb3 : Below w1.heap.size w1 w2 := (Below.refl _ _).drew.trans hb2
    have HB3 : Hid (Below w.heap.size w w2) := Lib.hid (HB2.out.trans (hb3.mono HB2.out.size))
    obtain ⟨c0, c1, c2, f0, f1, f2, hz⟩ := block3 (old_below HX1.out hb3)
    clear hb2 hb3
    go_wp2_with fail
    refine bodyPost_ret (v := slotV 0 (0, -1)) (by simp [results, Tryd.results22, go_sem, c0, c1, c2, hz, slotV]) rfl ?_
    rw [HP.out]
    exact ⟨rfl, ((HB3.out.setCell (by simp) _).setCell (by simp) _).setCell (by simp) _⟩
  · have h4i : decide ((L.length : Int) < 4) = false := by simp; omega
    obtain ⟨g, rfl, hg1, hg2⟩ := HO.out.head (by omega)
    have hS : Below w1.heap.size w1 w1.drew := (Below.refl _ _).drew
    have hat := fun j hj => (HO.out.at rfl j hj).1
    have r0 : ∀ w', Below w1.heap.size w1 w' → w'.cell? ⟨g, 0, none⟩ = some (.int .u8 (L[0].toNat : Int)) := fun w' hw' => (hw'.cell hg2).trans (hat 0 (by omega))
    have r1 : ∀ w', Below w1.heap.size w1 w' → w'.cell? ⟨g, 1, none⟩ = some (.int .u8 (L[1].toNat : Int)) := fun w' hw' => (hw'.cell hg2).trans (hat 1 (by omega))
    have r2 : ∀ w', Below w1.heap.size w1 w' → w'.cell? ⟨g, 2, none⟩ = some (.int .u8 (L[2].toNat : Int)) := fun w' hw' => (hw'.cell hg2).trans (hat 2 (by omega))
    have r3 : ∀ w', Below w1.heap.size w1 w' → w'.cell? ⟨g, 3, none⟩ = some (.int .u8 (L[3].toNat : Int)) := fun w' hw' => (hw'.cell hg2).trans (hat 3 (by omega))
    have hlc : L.length ≤ vc ∧ vc ≤ 9223372036854775807 := by
      rcases HO.out.rep with ⟨h, -⟩ | ⟨b, off, c, h, -, h1, h2, -⟩
      · rw [h] at h4; simp at h4
      · cases h; exact ⟨h1, h2⟩
    have HD : Hid (∀ w' : World, Below w1.heap.size w1 w' → RepB w' (fun k => k < w'.heap.size) (L.drop 4) (.slice (if vc = 4 then some ⟨g, 0, none⟩ else some ⟨g, 4, none⟩) (L.length - 4) (vc - 4))) := Lib.hid fun w' hw' => by
      have h1 := hw'.size
      refine RepB.drop4 (by omega) (fun j hj => ?_) (by omega) hlc.1 hlc.2
      have h2 := hw'.cell (p := ⟨g, j, none⟩) hg2
      rw [h2]
      exact hat j hj
    clear hat hlc
    have h4b : (4 : Int) ≤ (L.length : Int) := by omega
    have har : ∀ w' : World, (Instr.arrayAt 74 (.slice (some ⟨g, 0, none⟩) L.length vc)).run Tryd.prog w' = .ok (.pointer (some ⟨g, 0, none⟩)) w' := fun w' => run_arrayAt w' 74 _ 4 _ L.length vc Tryd.underlying74 (by omega)
    go_wp2_with fail
    refine wp_region_held (S := fun w' => Below w1.heap.size w1 w') (by kernel_rfl) ?_
    refine H_take (i := 0) (v := ?_) rfl (by as_aux_lemma => kernel_rfl) (by as_aux_lemma => kernel_rfl) (by as_aux_lemma => kernel_rfl) (fun _ _ _ h => h) (by rfl) hS ?_ ?_
    rotate_left
    · intro w' hw'; go_simp; with_reducible rfl
    go_simp
    refine H_take (i := 1) (v := ?_) rfl (by as_aux_lemma => kernel_rfl) (by as_aux_lemma => kernel_rfl) (by as_aux_lemma => kernel_rfl) (fun _ _ _ h => h) (by rfl) hS ?_ ?_
    rotate_left
    · intro w' hw'; go_simp; with_reducible rfl
    go_simp
    refine H_take (i := 2) (v := ?_) rfl (by as_aux_lemma => kernel_rfl) (by as_aux_lemma => kernel_rfl) (by as_aux_lemma => kernel_rfl) (fun _ _ _ h => h) (by rfl) hS ?_ ?_
    rotate_left
    · intro w' hw'; go_simp; with_reducible rfl
    go_simp
    refine H_take (i := 3) (v := ?_) rfl (by as_aux_lemma => kernel_rfl) (by as_aux_lemma => kernel_rfl) (by as_aux_lemma => kernel_rfl) (fun _ _ _ h => h) (by rfl) hS ?_ ?_
    rotate_left
    · intro w' hw'; go_simp; with_reducible rfl
    go_simp
    refine H_take (i := 4) (v := ?_) rfl (by as_aux_lemma => kernel_rfl) (by as_aux_lemma => kernel_rfl) (by as_aux_lemma => kernel_rfl) (fun _ _ _ h => h) (by rfl) hS ?_ ?_
    rotate_left
    · intro w' hw'; go_simp; with_reducible rfl
    go_simp
    refine H_take (i := 5) (v := ?_) rfl (by as_aux_lemma => kernel_rfl) (by as_aux_lemma => kernel_rfl) (by as_aux_lemma => kernel_rfl) (fun _ _ _ h => h) (by rfl) hS ?_ ?_
    rotate_left
    · intro w' hw'; go_simp; with_reducible rfl
    go_simp
    refine H_take (i := 7) (v := ?_) rfl (by as_aux_lemma => kernel_rfl) (by as_aux_lemma => kernel_rfl) (by as_aux_lemma => kernel_rfl) (fun _ _ _ h => h) (by rfl) hS ?_ ?_
    rotate_left
    · intro w' hw'; go_simp; with_reducible rfl
    go_simp
    refine H_take (i := 8) (v := ?_) rfl (by as_aux_lemma => kernel_rfl) (by as_aux_lemma => kernel_rfl) (by as_aux_lemma => kernel_rfl) (fun _ _ _ h => h) (by rfl) hS ?_ ?_
    rotate_left
    · intro w' hw'; go_simp; with_reducible rfl
    go_simp
    refine H_take (i := 9) (v := ?_) rfl (by as_aux_lemma => kernel_rfl) (by as_aux_lemma => kernel_rfl) (by as_aux_lemma => kernel_rfl) (fun _ _ _ h => h) (by rfl) hS ?_ ?_
    rotate_left
    · intro w' hw'; go_simp; with_reducible rfl
    go_simp
    refine H_one (i := 6) (by as_aux_lemma => kernel_rfl) rfl (by rfl) ?_
    go_simp
    have HT1 : Hid (Tab w1) := Lib.hid (hT.out.next (HB1.out.trans (HO.out.1.mono HB1.out.size)))
    refine (sumOf_any (L.drop 4) _ _ w1.drew (HD.out _ hS) (fun _ h => h) (Lib.hid (HT1.out.next (Below.refl _ _).drew))).mono ?_
    rintro e w2 ⟨rfl, hb2⟩
    have hcs : C.sumOf (L.drop 4) < 4294967296 := C.sumOf_lt _
    obtain ⟨cs, hcs2⟩ : ∃ cs, cs = C.sumOf (L.drop 4) := ⟨_, rfl⟩
    rw [← hcs2] at hcs ⊢
    have HCS := Lib.hid hcs2
    obtain ⟨tb, htb⟩ : ∃ tb, tb = decide (L.take 4 = four cs) := ⟨_, rfl⟩
    have heq : ∀ w' : World, (Op.equalIn 10000 74 (.agg #[.int .u8 ((cs : Int) / 16777216), .int .u8 ((cs : Int) / 65536 % 256), .int .u8 ((cs : Int) / 256 % 256), .int .u8 ((cs : Int) % 256)]) (.agg #[.int .u8 (L[0].toNat : Int), .int .u8 (L[1].toNat : Int), .int .u8 (L[2].toNat : Int), .int .u8 (L[3].toNat : Int)])).run Tryd.prog w' = .ok tb w' := fun w' => by
      rw [eq4_any, four_test hcs (show 4 ≤ L.length by omega), htb]
    have HTB := Lib.hid htb
    clear hcs2 htb
    have hS2 : Below w1.heap.size w1 w2 := (Below.refl _ _).drew.trans hb2
    unfold fourV
    refine ⟨hS2, ?_⟩
    go_simp
    refine H_take (i := 10) (v := ?_) rfl (by as_aux_lemma => kernel_rfl) (by as_aux_lemma => kernel_rfl) (by as_aux_lemma => kernel_rfl) (fun _ _ _ h => h) (by rfl) hS2 ?_ ?_
    rotate_left
    · intro w' hw'; go_simp; with_reducible rfl
    go_simp
    refine H_take (i := 11) (v := ?_) rfl (by as_aux_lemma => kernel_rfl) (by as_aux_lemma => kernel_rfl) (by as_aux_lemma => kernel_rfl) (fun _ _ _ h => h) (by rfl) hS2 ?_ ?_
    rotate_left
    · intro w' hw'; go_simp; with_reducible rfl
    go_simp
    refine wpAnyH_done (by as_aux_lemma => kernel_rfl) ?_ _
    have HS2 := Lib.hid hS2
    have HBW2 : Hid (Below w.heap.size w w2) := Lib.hid (HB2.out.trans (hS2.mono HB2.out.size))
    clear r0 r1 r2 r3 hS hS2 heq hb2 h4i
    cases tb with
    | true =>
      have HF4 : Hid (L.take 4 = four cs) := Lib.hid (of_decide_eq_true HTB.out.symm)
      clear hcs
      obtain ⟨sa, sc, HDD, hsa⟩ : ∃ sa sc, Hid (RepB w2 (fun k => k < w2.heap.size) (L.drop 4) (.slice sa (L.length - 4) sc)) ∧ ((vc = 4 ∧ sa = some ⟨g, 0, none⟩ ∧ sc = 0) ∨ (¬ vc = 4 ∧ sa = some ⟨g, 4, none⟩ ∧ sc = vc - 4)) := by
        have h1 := HD.out _ HS2.out
        by_cases hv : vc = 4
        · rw [if_pos hv, hv] at h1
          exact ⟨_, _, Lib.hid h1, .inl ⟨hv, rfl, rfl⟩⟩
        · rw [if_neg hv] at h1
          exact ⟨_, _, Lib.hid h1, .inr ⟨hv, rfl, rfl⟩⟩
      rcases hsa with ⟨hv, rfl, rfl⟩ | ⟨hv, rfl, rfl⟩
      all_goals
        first | subst hv | skip
        go_wp2_with fail
        refine (Take_any nmRow (L.drop 4) _ _ w2 (by decide) HDD.out (fun _ h => h) (by rw [List.length_drop]; have := HLL.out; omega)).mono ?_
        rintro e w3 ⟨hb3, hr3⟩
        have HS3 := Lib.hid (HS2.out.trans (hb3.mono HS2.out.size))
        have HBW3 : Hid (Below w.heap.size w w3) := Lib.hid (HBW2.out.trans (hb3.mono HBW2.out.size))
        have hz3 := HS3.out.size
        clear hb3
        cases hq : takeAt nmRow.data.toList (L.drop 4) with
        | error c =>
          rw [hq] at hr3
          subst hr3
          have hc0 : (c != 0) = true := by
            have := takeAt_err hq
            simp only [bne, this]; rfl
          have HP : Hid (pslot L = (0, (0, -1))) := Lib.hid (by
            have h1 : slot L = (0, (0, 0)) := by
              unfold slot
              rw [if_neg h4, if_neg (by rw [← HCS.out]; exact fun h => h HF4.out)]
              rw [take_row] at hq
              cases h3 : three (L.drop 4) with
              | error e => rfl
              | ok p =>
                obtain ⟨⟨x, y, z⟩, q⟩ := p
                rw [h3] at hq
                cases q with
                | nil => cases hq
                | cons a q => rfl
            unfold pslot; rw [h1]; rfl)
          clear hq
          go_wp2_with fail
          refine (none_any _).mono ?_
          rintro e w4 ⟨rfl, hb4⟩
          have HB4 : Hid (Below w.heap.size w w4) := Lib.hid (HBW3.out.trans ((below_alloc _ _).trans (hb4.mono (by simp)) |>.mono HBW3.out.size))
          obtain ⟨c0, c1, c2, f0, f1, f2, hz⟩ := block3 (old_below (old_alloc (old_below HX1.out HS3.out)) hb4)
          clear hb4
          go_wp2_with fail
          refine bodyPost_ret (v := slotV 0 (0, -1)) (by simp [results, Tryd.results22, go_sem, c0, c1, c2, hz, slotV]) rfl ?_
          rw [HP.out]
          exact ⟨rfl, ((HB4.out.setCell (by simp) _).setCell (by simp) _).setCell (by simp) _⟩
        | ok dd =>
          rw [hq] at hr3
          obtain ⟨u, rfl, hu⟩ := hr3
          rw [take_row] at hq
          cases h3 : three (L.drop 4) with
          | error e => rw [h3] at hq; cases hq
          | ok p =>
            obtain ⟨⟨x, y, z⟩, q⟩ := p
            rw [h3] at hq
            cases q with
            | cons a q => cases hq
            | nil =>
              cases hq
              obtain ⟨vb, vl, rfl, -, hvb, hvl⟩ := RepV_mk.1 hu
              obtain ⟨lb, lo, lc, rfl, hlb, hx, hy, hzz, e0, e1, e2⟩ := rep_three hvl
              have hlb2 := hlb.2
              have HSL : Hid (slot L = if x < top ∧ y < top ∧ z ≤ top then (x, ((y : Int), (z : Int) - 1)) else (0, (0, 0))) := Lib.hid (by
                unfold slot
                rw [if_neg h4, if_neg (by rw [← HCS.out]; exact fun h => h HF4.out), h3])
              obtain ⟨bba, bbn, bbc, rfl⟩ : ∃ a n c, vb = .slice a n c := by
                obtain ⟨a, c, h, -⟩ := hvb.slice
                exact ⟨a, _, c, h⟩
              have HX3 : Hid (w3.heap[w.heap.size]? = some (.cells #[.int .i64 0, .int .i64 0, .int .i64 0] 55)) := Lib.hid (old_below HX1.out HS3.out)
              clear hu hvb hvl hlb h3
              simp only [Int.natCast_zero]
              go_wp2_with fail
              obtain ⟨wr, hwr⟩ : ∃ wr, wr = w3.alloc (.cells #[.int .u64 0, .slice bba bbn bbc, .slice (some ⟨lb, lo, none⟩) 3 lc] 79) := ⟨_, rfl⟩
              have hb4 : Below w3.heap.size w3 wr := by rw [hwr]; exact below_alloc _ _
              have hbx : wr.heap[w3.heap.size]? = some (.cells #[.int .u64 0, .slice bba bbn bbc, .slice (some ⟨lb, lo, none⟩) 3 lc] 79) := by rw [hwr]; exact heap_new _ _ _ rfl
              obtain ⟨-, -, bx2, -, -, -, bxz⟩ := block3 hbx
              have e0' := (hb4.cell (p := ⟨lb, lo, none⟩) hlb2).trans e0
              have e1' := (hb4.cell (p := ⟨lb, lo + 3, none⟩) hlb2).trans e1
              have e2' := (hb4.cell (p := ⟨lb, lo + 6, none⟩) hlb2).trans e2
              have hlb4 := Nat.lt_of_lt_of_le hlb2 hb4.size
              have q2 : ∀ w', Below wr.heap.size wr w' → w'.cell? ⟨w3.heap.size, 2, none⟩ = some (.slice (some ⟨lb, lo, none⟩) 3 lc) := fun w' hw' => (hw'.cell bxz).trans bx2
              have r0 : ∀ w', Below wr.heap.size wr w' → w'.cell? ⟨lb, lo, none⟩ = some (.int .u64 (x : Int)) := fun w' hw' => (hw'.cell hlb4).trans e0'
              have r1 : ∀ w', Below wr.heap.size wr w' → w'.cell? ⟨lb, lo + 3, none⟩ = some (.int .u64 (y : Int)) := fun w' hw' => (hw'.cell hlb4).trans e1'
              have r2 : ∀ w', Below wr.heap.size wr w' → w'.cell? ⟨lb, lo + 6, none⟩ = some (.int .u64 (z : Int)) := fun w' hw' => (hw'.cell hlb4).trans e2'
              have HBR : Hid (Below w.heap.size w wr) := Lib.hid (HBW3.out.trans (hb4.mono HBW3.out.size))
              have HXR : Hid (wr.heap[w.heap.size]? = some (.cells #[.int .i64 0, .int .i64 0, .int .i64 0] 55)) := Lib.hid (old_below HX3.out hb4)
              rw [← hwr]
              have hS : Below wr.heap.size wr wr.drew := (Below.refl _ _).drew
              clear hwr hb4 hbx bx2 e0 e1 e2 e0' e1' e2'
              refine wp_region_held (S := fun w' => Below wr.heap.size wr w') (by kernel_rfl) ?_
              refine H_take (i := 0) (v := ?_) rfl (by as_aux_lemma => kernel_rfl) (by as_aux_lemma => kernel_rfl) (by as_aux_lemma => kernel_rfl) (fun _ _ _ h => h) (by rfl) hS ?_ ?_
              rotate_left
              · intro w' hw'; go_simp; with_reducible rfl
              go_simp
              refine H_take (i := 1) (v := ?_) rfl (by as_aux_lemma => kernel_rfl) (by as_aux_lemma => kernel_rfl) (by as_aux_lemma => kernel_rfl) (fun _ _ _ h => h) (by rfl) hS ?_ ?_
              rotate_left
              · intro w' hw'; go_simp; with_reducible rfl
              go_simp
              refine H_take (i := 2) (v := ?_) rfl (by as_aux_lemma => kernel_rfl) (by as_aux_lemma => kernel_rfl) (by as_aux_lemma => kernel_rfl) (fun _ _ _ h => h) (by rfl) hS ?_ ?_
              rotate_left
              · intro w' hw'; go_simp; with_reducible rfl
              go_simp
              refine H_take (i := 3) (v := ?_) rfl (by as_aux_lemma => kernel_rfl) (by as_aux_lemma => kernel_rfl) (by as_aux_lemma => kernel_rfl) (fun _ _ _ h => h) (by rfl) hS ?_ ?_
              rotate_left
              · intro w' hw'; go_simp; with_reducible rfl
              go_simp
              refine H_take (i := 4) (v := ?_) rfl (by as_aux_lemma => kernel_rfl) (by as_aux_lemma => kernel_rfl) (by as_aux_lemma => kernel_rfl) (fun _ _ _ h => h) (by rfl) hS ?_ ?_
              rotate_left
              · intro w' hw'; go_simp; with_reducible rfl
              go_simp
              refine H_take (i := 5) (v := ?_) rfl (by as_aux_lemma => kernel_rfl) (by as_aux_lemma => kernel_rfl) (by as_aux_lemma => kernel_rfl) (fun _ _ _ h => h) (by rfl) hS ?_ ?_
              rotate_left
              · intro w' hw'; go_simp; with_reducible rfl
              go_simp
              refine H_take (i := 6) (v := ?_) rfl (by as_aux_lemma => kernel_rfl) (by as_aux_lemma => kernel_rfl) (by as_aux_lemma => kernel_rfl) (fun _ _ _ h => h) (by rfl) hS ?_ ?_
              rotate_left
              · intro w' hw'; go_simp; with_reducible rfl
              go_simp
              refine H_take (i := 7) (v := ?_) rfl (by as_aux_lemma => kernel_rfl) (by as_aux_lemma => kernel_rfl) (by as_aux_lemma => kernel_rfl) (fun _ _ _ h => h) (by rfl) hS ?_ ?_
              rotate_left
              · intro w' hw'; go_simp; with_reducible rfl
              go_simp
              refine H_take (i := 8) (v := ?_) rfl (by as_aux_lemma => kernel_rfl) (by as_aux_lemma => kernel_rfl) (by as_aux_lemma => kernel_rfl) (fun _ _ _ h => h) (by rfl) hS ?_ ?_
              rotate_left
              · intro w' hw'; go_simp; with_reducible rfl
              go_simp
              refine H_take (i := 9) (v := ?_) rfl (by as_aux_lemma => kernel_rfl) (by as_aux_lemma => kernel_rfl) (by as_aux_lemma => kernel_rfl) (fun _ _ _ h => h) (by rfl) hS ?_ ?_
              rotate_left
              · intro w' hw'; go_simp; with_reducible rfl
              go_simp
              refine H_take (i := 10) (v := ?_) rfl (by as_aux_lemma => kernel_rfl) (by as_aux_lemma => kernel_rfl) (by as_aux_lemma => kernel_rfl) (fun _ _ _ h => h) (by rfl) hS ?_ ?_
              rotate_left
              · intro w' hw'; go_simp; with_reducible rfl
              go_simp
              refine H_take (i := 11) (v := ?_) rfl (by as_aux_lemma => kernel_rfl) (by as_aux_lemma => kernel_rfl) (by as_aux_lemma => kernel_rfl) (fun _ _ _ h => h) (by rfl) hS ?_ ?_
              rotate_left
              · intro w' hw'; go_simp; with_reducible rfl
              go_simp
              refine H_take (i := 12) (v := ?_) rfl (by as_aux_lemma => kernel_rfl) (by as_aux_lemma => kernel_rfl) (by as_aux_lemma => kernel_rfl) (fun _ _ _ h => h) (by rfl) hS ?_ ?_
              rotate_left
              · intro w' hw'; go_simp; with_reducible rfl
              go_simp
              refine H_take (i := 13) (v := ?_) rfl (by as_aux_lemma => kernel_rfl) (by as_aux_lemma => kernel_rfl) (by as_aux_lemma => kernel_rfl) (fun _ _ _ h => h) (by rfl) hS ?_ ?_
              rotate_left
              · intro w' hw'; go_simp; with_reducible rfl
              go_simp
              refine H_take (i := 14) (v := ?_) rfl (by as_aux_lemma => kernel_rfl) (by as_aux_lemma => kernel_rfl) (by as_aux_lemma => kernel_rfl) (fun _ _ _ h => h) (by rfl) hS ?_ ?_
              rotate_left
              · intro w' hw'; go_simp; with_reducible rfl
              go_simp
              refine H_take (i := 15) (v := ?_) rfl (by as_aux_lemma => kernel_rfl) (by as_aux_lemma => kernel_rfl) (by as_aux_lemma => kernel_rfl) (fun _ _ _ h => h) (by rfl) hS ?_ ?_
              rotate_left
              · intro w' hw'; go_simp; with_reducible rfl
              go_simp
              refine H_take (i := 16) (v := ?_) rfl (by as_aux_lemma => kernel_rfl) (by as_aux_lemma => kernel_rfl) (by as_aux_lemma => kernel_rfl) (fun _ _ _ h => h) (by rfl) hS ?_ ?_
              rotate_left
              · intro w' hw'; go_simp; with_reducible rfl
              go_simp
              refine H_take (i := 17) (v := ?_) rfl (by as_aux_lemma => kernel_rfl) (by as_aux_lemma => kernel_rfl) (by as_aux_lemma => kernel_rfl) (fun _ _ _ h => h) (by rfl) hS ?_ ?_
              rotate_left
              · intro w' hw'; go_simp; with_reducible rfl
              go_simp
              refine wpAnyH_done (by as_aux_lemma => kernel_rfl) ?_ _
              clear q2 r0 r1 r2 hS
              have HPN : Hid ((x < 1 ∨ top ≤ x ∨ top ≤ y ∨ top < z) → pslot L = (0, (0, -1))) := Lib.hid fun h => pslot_none HSL.out h
              rcases (show (x : Int) < 1 ∨ (¬ (x : Int) < 1 ∧ ((4611686018427387904 : Int) ≤ (x : Int) ∨ (¬ (4611686018427387904 : Int) ≤ (x : Int) ∧ ((4611686018427387904 : Int) ≤ (y : Int) ∨ (¬ (4611686018427387904 : Int) ≤ (y : Int) ∧ ((4611686018427387904 : Int) < (z : Int) ∨ ¬ (4611686018427387904 : Int) < (z : Int))))))) by omega) with k1 | ⟨k1, k2 | ⟨k2, k3 | ⟨k3, k4 | k4⟩⟩⟩
              · have HP := Lib.hid (HPN.out (.inl (by omega)))
                clear HPN
                go_wp2_with fail
                refine (none_any _).mono ?_
                rintro e w4 ⟨rfl, hb5⟩
                have HB5 : Hid (Below w.heap.size w w4) := Lib.hid (HBR.out.trans (((Below.refl _ _).drew.trans hb5).mono HBR.out.size))
                obtain ⟨c0, c1, c2, f0, f1, f2, hz⟩ := block3 (old_below HXR.out ((Below.refl _ _).drew.trans hb5))
                clear hb5
                go_wp2_with fail
                refine bodyPost_ret (v := slotV 0 (0, -1)) (by simp [results, Tryd.results22, go_sem, c0, c1, c2, hz, slotV]) rfl ?_
                rw [HP.out]
                exact ⟨rfl, ((HB5.out.setCell (by simp) _).setCell (by simp) _).setCell (by simp) _⟩
              · have HP := Lib.hid (HPN.out (.inr (.inl (by unfold top; omega))))
                have t1 : decide ((x : Int) < 1) = false := by simp; omega
                clear HPN
                go_wp2_with fail
                refine (none_any _).mono ?_
                rintro e w4 ⟨rfl, hb5⟩
                have HB5 : Hid (Below w.heap.size w w4) := Lib.hid (HBR.out.trans (((Below.refl _ _).drew.trans hb5).mono HBR.out.size))
                obtain ⟨c0, c1, c2, f0, f1, f2, hz⟩ := block3 (old_below HXR.out ((Below.refl _ _).drew.trans hb5))
                clear hb5
                go_wp2_with fail
                refine bodyPost_ret (v := slotV 0 (0, -1)) (by simp [results, Tryd.results22, go_sem, c0, c1, c2, hz, slotV]) rfl ?_
                rw [HP.out]
                exact ⟨rfl, ((HB5.out.setCell (by simp) _).setCell (by simp) _).setCell (by simp) _⟩
              · have HP := Lib.hid (HPN.out (.inr (.inr (.inl (by unfold top; omega)))))
                have t1 : decide ((x : Int) < 1) = false := by simp; omega
                have t2 : decide ((4611686018427387904 : Int) ≤ (x : Int)) = false := by simp; omega
                clear HPN
                go_wp2_with fail
                refine (none_any _).mono ?_
                rintro e w4 ⟨rfl, hb5⟩
                have HB5 : Hid (Below w.heap.size w w4) := Lib.hid (HBR.out.trans (((Below.refl _ _).drew.trans hb5).mono HBR.out.size))
                obtain ⟨c0, c1, c2, f0, f1, f2, hz⟩ := block3 (old_below HXR.out ((Below.refl _ _).drew.trans hb5))
                clear hb5
                go_wp2_with fail
                refine bodyPost_ret (v := slotV 0 (0, -1)) (by simp [results, Tryd.results22, go_sem, c0, c1, c2, hz, slotV]) rfl ?_
                rw [HP.out]
                exact ⟨rfl, ((HB5.out.setCell (by simp) _).setCell (by simp) _).setCell (by simp) _⟩
              · have HP := Lib.hid (HPN.out (.inr (.inr (.inr (by unfold top; omega)))))
                have t1 : decide ((x : Int) < 1) = false := by simp; omega
                have t2 : decide ((4611686018427387904 : Int) ≤ (x : Int)) = false := by simp; omega
                have t3 : decide ((4611686018427387904 : Int) ≤ (y : Int)) = false := by simp; omega
                clear HPN
                go_wp2_with fail
                refine (none_any _).mono ?_
                rintro e w4 ⟨rfl, hb5⟩
                have HB5 : Hid (Below w.heap.size w w4) := Lib.hid (HBR.out.trans (((Below.refl _ _).drew.trans hb5).mono HBR.out.size))
                obtain ⟨c0, c1, c2, f0, f1, f2, hz⟩ := block3 (old_below HXR.out ((Below.refl _ _).drew.trans hb5))
                clear hb5
                go_wp2_with fail
                refine bodyPost_ret (v := slotV 0 (0, -1)) (by simp [results, Tryd.results22, go_sem, c0, c1, c2, hz, slotV]) rfl ?_
                rw [HP.out]
                exact ⟨rfl, ((HB5.out.setCell (by simp) _).setCell (by simp) _).setCell (by simp) _⟩
              · have HP : Hid (pslot L = (x, ((y : Int), (z : Int) - 1))) := Lib.hid (pslot_some HSL.out (by unfold top; omega))
                have t1 : decide ((x : Int) < 1) = false := by simp; omega
                have t2 : decide ((4611686018427387904 : Int) ≤ (x : Int)) = false := by simp; omega
                have t3 : decide ((4611686018427387904 : Int) ≤ (y : Int)) = false := by simp; omega
                have t4 : decide ((4611686018427387904 : Int) < (z : Int)) = false := by simp; omega
                have t5 : (x : Int) < 4611686018427387904 := by omega
                have t6 : (y : Int) < 4611686018427387904 := by omega
                have t7 : (z : Int) ≤ 4611686018427387904 := by omega
                obtain ⟨c0, c1, c2, f0, f1, f2, hz⟩ := block3 HXR.out
                clear HPN k1 k2 k3 k4
                go_wp2_with fail
                refine bodyPost_ret (v := slotV x ((y : Int), (z : Int) - 1)) (by simp [results, Tryd.results22, go_sem, c0, c1, c2, hz, slotV]) rfl ?_
                rw [HP.out]
                exact ⟨rfl, ((HBR.out.drew.setCell (by simp) _).setCell (by simp) _).setCell (by simp) _⟩
    | false =>
      have hfo : ¬ L.take 4 = four cs := of_decide_eq_false HTB.out.symm
      have HP : Hid (pslot L = (0, (0, -1))) := Lib.hid (by
        have h1 : slot L = (0, (0, 0)) := by
          unfold slot
          rw [if_neg h4, if_pos (by rw [← HCS.out]; exact hfo)]
        unfold pslot; rw [h1]; rfl)
      clear hfo
      obtain ⟨sa, hsa⟩ : ∃ sa, sa = (if vc = 4 then some (⟨g, 0, none⟩ : Addr) else some ⟨g, 4, none⟩) := ⟨_, rfl⟩
      rw [← hsa]
      clear hsa
      go_wp2_with fail
      refine (none_any _).mono ?_
      rintro e w3 ⟨rfl, hb3⟩
      have HB3 : Hid (Below w.heap.size w w3) := Lib.hid (HBW2.out.trans (hb3.mono HBW2.out.size))
      obtain ⟨c0, c1, c2, f0, f1, f2, hz⟩ := block3 (old_below (old_below HX1.out HS2.out) hb3)
      clear hb3
      go_wp2_with fail
      refine bodyPost_ret (v := slotV 0 (0, -1)) (by simp [results, Tryd.results22, go_sem, c0, c1, c2, hz, slotV]) rfl ?_
      rw [HP.out]
      exact ⟨rfl, ((HB3.out.setCell (by simp) _).setCell (by simp) _).setCell (by simp) _⟩
end Go.Proofs.YtikcdchmggdmdaaDoor.M

/- Part: PHard4. -/
namespace Go.Proofs.YtikcdchmggdmdaaDoor.M
open Go.RowKit Go.Maps
open D (Fl Dk)

theorem block2 {w : World} {g : Nat} {x y : Value} {t : TypeId} (h : w.heap[g]? = some (.cells #[x, y] t)) :
    w.cell? ⟨g, 0, none⟩ = some x ∧ w.cell? ⟨g, 1, none⟩ = some y ∧ w.frozen? ⟨g, 0, none⟩ = false ∧ w.frozen? ⟨g, 1, none⟩ = false ∧ g < w.heap.size :=
  ⟨cell_of_row w g 0 _ t _ h, cell_of_row w g 1 _ t _ h, frozen_of_row w g 0 _ t h, frozen_of_row w g 1 _ t h, lt_of_heap h⟩

theorem newest_first {fs : List Fl} (h1 : 0 < (pslot (bytesOf fs nmH0)).1) (h2 : (pslot (bytesOf fs nmH1)).1 ≤ (pslot (bytesOf fs nmH0)).1) :
    newest fs = (0, (pslot (bytesOf fs nmH0)).1, (pslot (bytesOf fs nmH0)).2) := by
  unfold newest pslot at *
  split at h1
  · simp at h1
  · rename_i h3
    rw [if_neg (fun h => h3 h.1), if_neg h3, if_neg]
    rw [if_neg h3] at h2
    split at h2
    · rename_i h4; omega
    · omega

theorem newest_second {fs : List Fl} (h : ¬ (0 < (pslot (bytesOf fs nmH0)).1 ∧ (pslot (bytesOf fs nmH1)).1 ≤ (pslot (bytesOf fs nmH0)).1)) :
    (newest fs).2 = ((pslot (bytesOf fs nmH1)).1, (pslot (bytesOf fs nmH1)).2) ∧ other (newest fs).1 = nmH0 := by
  unfold newest pslot at *
  by_cases h0 : (slot (bytesOf fs nmH0)).1 = 0
  · by_cases h1 : (slot (bytesOf fs nmH1)).1 = 0
    · rw [if_pos ⟨h0, h1⟩, if_pos h1]; exact ⟨rfl, rfl⟩
    · rw [if_neg (fun h => h1 h.2), if_pos (by omega), if_neg h1]; exact ⟨rfl, rfl⟩
  · rw [if_neg h0] at h
    by_cases h1 : (slot (bytesOf fs nmH1)).1 = 0
    · rw [if_pos h1] at h
      exfalso; apply h; exact ⟨by omega, by simp⟩
    · rw [if_neg h1] at h ⊢
      rw [if_neg (fun h => h1 h.2), if_pos (by omega)]; exact ⟨rfl, rfl⟩

set_option maxRecDepth 20000 in
set_option maxHeartbeats 1600000 in
theorem slots_any (d : Dk) (X : Nat → Prop) (gd : Nat) (w : World) (hd : PDskIn w X gd d) (hr : D.Rising d.fs) (hu : D.used d.fs ≤ 1099511627776) (hT : Hid (Tab w)) :
    Calls Tryd.prog 17 #[.pointer (some ⟨gd, 0, none⟩)] w fun e w' => e = .returned (.tuple #[slotV (newest d.fs).2.1 (newest d.fs).2.2, .string (other (newest d.fs).1)]) ∧ Below w.heap.size w w' := by
  obtain ⟨W, hW⟩ : ∃ W, W = w.alloc (.cells #[.int .i64 0, .int .i64 0, .int .i64 0] 55) := ⟨_, rfl⟩
  have HB1 : Hid (Below w.heap.size w W) := Lib.hid (by rw [hW]; exact below_alloc _ _)
  have hbox : W.heap[w.heap.size]? = some (.cells #[.int .i64 0, .int .i64 0, .int .i64 0] 55) := by rw [hW]; exact heap_new _ _ _ rfl
  have HBOX := Lib.hid hbox
  have HD := Lib.hid hd
  have HR := Lib.hid hr
  have HU := Lib.hid hu
  have HW := Lib.hid hW
  clear hW hbox hd hr hu
  go_enter Tryd.func17, Tryd.ntmps17
  go_wp2_with fail
  rw [← HW.out]
  refine (read_any d X gd nmH0 W (HD.out.next HB1.out) HR.out (by decide) HU.out (Lib.hid (hT.out.next HB1.out))).mono ?_
  rintro e w1 ⟨rfl, hb1⟩
  have HB2 : Hid (Below w.heap.size w w1) := Lib.hid (HB1.out.trans (hb1.mono HB1.out.size))
  have HX1 := Lib.hid (old_below HBOX.out hb1)
  obtain ⟨a, ha⟩ : ∃ a, a = pslot (bytesOf d.fs nmH0) := ⟨_, rfl⟩
  rw [← ha]
  have HA := Lib.hid ha
  clear hb1 ha
  obtain ⟨ac, at', av⟩ := a
  simp only [slotV]
  go_wp2_with fail
  refine (read_any d X gd nmH1 w1 (HD.out.next HB2.out) HR.out (by decide) HU.out (Lib.hid (hT.out.next HB2.out))).mono ?_
  rintro e w2 ⟨rfl, hb2⟩
  have HB3 : Hid (Below w.heap.size w w2) := Lib.hid (HB2.out.trans (hb2.mono HB2.out.size))
  have hbox2 := old_below HX1.out hb2
  obtain ⟨b, hb⟩ : ∃ b, b = pslot (bytesOf d.fs nmH1) := ⟨_, rfl⟩
  rw [← hb]
  have HB := Lib.hid hb
  clear hb2 hb
  obtain ⟨bc, bt, bv⟩ := b
  simp only [slotV]
  obtain ⟨c0, c1, c2, f0, f1, f2, hz⟩ := block3 hbox2
  clear hbox2
  have hzz := HB3.out.size
  by_cases h1 : 0 < ac ∧ bc ≤ ac
  · have HN : Hid ((newest d.fs).2 = (ac, at', av) ∧ other (newest d.fs).1 = nmH1) := Lib.hid (by
      have h2 := newest_first (fs := d.fs) (by rw [← HA.out]; exact h1.1) (by rw [← HA.out, ← HB.out]; exact h1.2)
      rw [h2, ← HA.out]; exact ⟨rfl, rfl⟩)
    have q1 : (0 : Int) < (ac : Int) := by omega
    have q2 : (bc : Int) ≤ (ac : Int) := by omega
    clear h1
    go_wp2_with fail
    refine bodyPost_ret (v := .tuple #[.agg #[.int .i64 (ac : Int), .int .i64 at', .int .i64 av], .string nmH1]) (by simp [results, Tryd.results17, go_sem, c0, c1, c2, hz, slotV, nmH1]) rfl ?_
    refine ⟨?_, ?_⟩
    · rw [HN.out.1, HN.out.2]; rfl
    · exact ((((HB3.out.setCell (by simp) _).setCell (by simp) _).setCell (by simp) _).alloc (by simp; omega) _).alloc (by simp; omega) _
  · have HN : Hid ((newest d.fs).2 = (bc, bt, bv) ∧ other (newest d.fs).1 = nmH0) := Lib.hid (by
      have h2 := newest_second (fs := d.fs) (by rw [← HA.out, ← HB.out]; exact h1)
      rw [h2.1, ← HB.out]; exact ⟨rfl, h2.2⟩)
    rcases (show ¬ (0 : Int) < (ac : Int) ∨ ((0 : Int) < (ac : Int) ∧ ¬ (bc : Int) ≤ (ac : Int)) by omega) with q1 | ⟨q1, q2⟩
    all_goals
      clear h1
      go_wp2_with fail
      refine bodyPost_ret (v := .tuple #[.agg #[.int .i64 (bc : Int), .int .i64 bt, .int .i64 bv], .string nmH0]) (by simp [results, Tryd.results17, go_sem, c0, c1, c2, hz, slotV, nmH0]) rfl ?_
      refine ⟨?_, ?_⟩
      · rw [HN.out.1, HN.out.2]; rfl
      · exact ((((HB3.out.setCell (by simp) _).setCell (by simp) _).setCell (by simp) _).alloc (by simp; omega) _).alloc (by simp; omega) _

set_option maxRecDepth 20000 in
set_option maxHeartbeats 1600000 in
theorem On_any (d : Dk) (X : Nat → Prop) (gd : Nat) (w : World) (hd : PDskIn w X gd d) (hr : D.Rising d.fs) (hu : D.used d.fs ≤ 1099511627776) (hT : Hid (Tab w)) :
    Calls Tryd.prog 14 #[.pointer (some ⟨gd, 0, none⟩)] w fun e w' => e = .returned (.agg #[.int .i64 (newest d.fs).2.2.1, .int .i64 (newest d.fs).2.2.2]) ∧ Below w.heap.size w w' := by
  obtain ⟨W, hW⟩ : ∃ W, W = w.alloc (.cells #[.int .i64 0, .int .i64 0] 23) := ⟨_, rfl⟩
  have HB1 : Hid (Below w.heap.size w W) := Lib.hid (by rw [hW]; exact below_alloc _ _)
  have hbox : W.heap[w.heap.size]? = some (.cells #[.int .i64 0, .int .i64 0] 23) := by rw [hW]; exact heap_new _ _ _ rfl
  have HBOX := Lib.hid hbox
  have HD := Lib.hid hd
  have HR := Lib.hid hr
  have HU := Lib.hid hu
  have HW := Lib.hid hW
  clear hW hbox hd hr hu
  go_enter Tryd.func14, Tryd.ntmps14
  go_wp2_with fail
  rw [← HW.out]
  refine (slots_any d X gd W (HD.out.next HB1.out) HR.out HU.out (Lib.hid (hT.out.next HB1.out))).mono ?_
  rintro e w1 ⟨rfl, hb1⟩
  have HB2 : Hid (Below w.heap.size w w1) := Lib.hid (HB1.out.trans (hb1.mono HB1.out.size))
  have hbox1 := old_below HBOX.out hb1
  obtain ⟨n, hn⟩ : ∃ n, n = newest d.fs := ⟨_, rfl⟩
  rw [← hn]
  have HN := Lib.hid hn
  obtain ⟨na, nc, nt, nv⟩ := n
  simp only [slotV]
  obtain ⟨c0, c1, f0, f1, hz⟩ := block2 hbox1
  clear hb1 hbox1 hn
  go_wp2_with fail
  refine bodyPost_ret (v := .agg #[.int .i64 nt, .int .i64 nv]) (by simp [results, Tryd.results14, go_sem, c0, c1, hz]) rfl ?_
  rw [← HN.out]
  refine ⟨rfl, ?_⟩
  have hzz := HB2.out.size
  exact ((HB2.out.setCell (by simp) _).setCell (by simp) _).alloc (by simp; omega) _

set_option maxRecDepth 20000 in
set_option maxHeartbeats 1600000 in
theorem Open_any (d : Dk) (X : Nat → Prop) (gd : Nat) (w : World) (hd : PDskIn w X gd d) (hr : D.Rising d.fs) (hu : D.used d.fs ≤ 1099511627776) (hT : Hid (Tab w)) :
    Calls Tryd.prog 10 #[.pointer (some ⟨gd, 0, none⟩)] w fun e w' => ∃ g, e = .returned (.tuple #[.pointer (some ⟨g, 0, none⟩), .int .i64 0]) ∧ Below w.heap.size w w' ∧ w.heap.size ≤ g ∧
      w'.heap[g]? = some (.cells #[.int .i64 (newest d.fs).2.2.1, .int .i64 (newest d.fs).2.2.2, .pointer (some ⟨gd, 0, none⟩)] 43) := by
  have HD := Lib.hid hd
  have HR := Lib.hid hr
  have HU := Lib.hid hu
  clear hd hr hu
  go_enter Tryd.func10, Tryd.ntmps10
  go_wp2_with fail
  refine (On_any d X gd w HD.out HR.out HU.out hT).mono ?_
  rintro e w1 ⟨rfl, hb1⟩
  have HB1 := Lib.hid hb1
  clear hb1
  go_wp2_with fail
  go_ret2
  exact ⟨_, rfl, HB1.out.trans ((below_alloc _ _).mono HB1.out.size), HB1.out.size, heap_new _ _ _ rfl⟩
end Go.Proofs.YtikcdchmggdmdaaDoor.M

/- Part: DiskAwake. -/
namespace Go.Proofs.YtikcdchmggdmdaaDoor.M
open Go.RowKit Go.Maps
open D (Fl Dk)

/-- A disk's call is told bytes of a new block. -/
theorem DS.one {w wr : World} {X : Nat → Prop} {gd : Nat} {d : Dk} (h : DS w X gd d wr) (L : List UInt8) (n : Nat) (hn : n = L.length) (hl : L.length ≤ 9223372036854775807) (fr : Nat × Nat) (t1 t2 : TypeId) {W : World}
    (hW : W = (wr.alloc (.cells (L.map byteV).toArray t1 fr)).alloc (.cells #[.slice (some ⟨wr.heap.size, 0, none⟩) n n] t2)) :
    DS w X gd d W ∧ RepBl W (fun b => b = wr.heap.size ∨ b = wr.heap.size + 1) [L] (.slice (some ⟨wr.heap.size + 1, 0, none⟩) 1 1) ∧ ∀ k, (k = wr.heap.size ∨ k = wr.heap.size + 1) → k < W.heap.size ∧ ¬ X k := by
  subst hW hn
  refine ⟨(h.alloc _).alloc _, RepBl.one (RepB.new (L := L) rfl hl) (by simp) (fun k hk => by rw [hk]; simp), fun k hk => ⟨by rcases hk with hk | hk <;> (rw [hk]; simp <;> omega), fun hx => by
    have := h.lt k hx
    omega⟩⟩

/-- .. of two. -/
theorem DS.two {w wr : World} {X : Nat → Prop} {gd : Nat} {d : Dk} (h : DS w X gd d wr) (L1 L2 : List UInt8) (n1 n2 : Nat) (hn1 : n1 = L1.length) (hn2 : n2 = L2.length) (hl1 : L1.length ≤ 9223372036854775807) (hl2 : L2.length ≤ 9223372036854775807) (fr1 fr2 : Nat × Nat) (t1 t2 t3 : TypeId) {W : World}
    (hW : W = ((wr.alloc (.cells (L1.map byteV).toArray t1 fr1)).alloc (.cells (L2.map byteV).toArray t2 fr2)).alloc (.cells #[.slice (some ⟨wr.heap.size, 0, none⟩) n1 n1, .slice (some ⟨wr.heap.size + 1, 0, none⟩) n2 n2] t3)) :
    DS w X gd d W ∧ RepBl W (fun b => (b = wr.heap.size ∨ b = wr.heap.size + 1) ∨ b = wr.heap.size + 1 + 1) [L1, L2] (.slice (some ⟨wr.heap.size + 1 + 1, 0, none⟩) 2 2) ∧ ∀ k, ((k = wr.heap.size ∨ k = wr.heap.size + 1) ∨ k = wr.heap.size + 1 + 1) → k < W.heap.size ∧ ¬ X k := by
  subst hW hn1 hn2
  refine ⟨((h.alloc _).alloc _).alloc _, ?_, fun k hk => ⟨by rcases hk with (hk | hk) | hk <;> (rw [hk]; simp <;> omega), fun hx => by
    have := h.lt k hx
    omega⟩⟩
  refine RepBl.new (w := (wr.alloc (.cells (L1.map byteV).toArray t1 fr1)).alloc (.cells (L2.map byteV).toArray t2 fr2)) (ls := [L1, L2]) (us := [.slice (some ⟨wr.heap.size, 0, none⟩) L1.length L1.length, .slice (some ⟨wr.heap.size + 1, 0, none⟩) L2.length L2.length]) (by simp) rfl (by simp) (fun k hk => by rcases hk with hk | hk <;> (rw [hk]; simp <;> omega)) fun i h1 h2 => ?_
  match i, h1 with
  | 0, _ => exact (RepB.new (w := wr) (L := L1) (t := t1) (fr := fr1) rfl hl1).same (fun k hk => .inl hk) fun k hk => Below.heap_alloc _ _ _ (by rw [hk]; simp)
  | 1, _ => exact (RepB.new (w := wr.alloc (.cells (L1.map byteV).toArray t1 fr1)) (L := L2) (t := t2) (fr := fr2) (by simp) hl2).same (fun k hk => .inr hk) fun _ _ => rfl

theorem DS.names {w wr : World} {X : Nat → Prop} {gd : Nat} {d : Dk} (h : DS w X gd d wr) (ls : List ByteArray) (n : Nat) (hn : n = ls.length) (hl : ls.length ≤ 9223372036854775807) (t : TypeId) {W : World} (hW : W = wr.alloc (.cells (ls.map Value.string).toArray t)) :
    DS w X gd d W ∧ RepSl W (fun b => b = wr.heap.size) ls (.slice (some ⟨wr.heap.size, 0, none⟩) n n) ∧ ∀ k, k = wr.heap.size → k < W.heap.size ∧ ¬ X k := by
  subst hW
  exact ⟨h.alloc _, RepSl.new rfl hn hl, fun k hk => ⟨by rw [hk]; simp, fun hx => by have := h.lt k hx; omega⟩⟩

theorem DS.ints {w wr : World} {X : Nat → Prop} {gd : Nat} {d : Dk} (h : DS w X gd d wr) (ls : List Int) (n : Nat) (hn : n = ls.length) (hl : ls.length ≤ 9223372036854775807) (hb : ∀ i ∈ ls, -9223372036854775808 ≤ i ∧ i ≤ 9223372036854775807) (t : TypeId) {W : World} (hW : W = wr.alloc (.cells (ls.map (Value.int .i64)).toArray t)) :
    DS w X gd d W ∧ RepI W (fun b => b = wr.heap.size) ls (.slice (some ⟨wr.heap.size, 0, none⟩) n n) ∧ ∀ k, k = wr.heap.size → k < W.heap.size ∧ ¬ X k := by
  subst hW
  exact ⟨h.alloc _, RepI.new rfl hn hl hb, fun k hk => ⟨by rw [hk]; simp, fun hx => by have := h.lt k hx; omega⟩⟩

theorem x1_used : D.used x1.fs = 0 := rfl

end Go.Proofs.YtikcdchmggdmdaaDoor.M

/- Part: PHard5. -/
namespace Go.Proofs.YtikcdchmggdmdaaDoor.M
open Go.RowKit Go.Maps
open D (Fl Dk)

theorem DS.tab {w wr : World} {X : Nat → Prop} {gd : Nat} {d : Dk} (h : DS w X gd d wr) (hT : Hid (Tab w)) : Hid (Tab wr) := Lib.hid (hT.out.next h.below)

/-- What a call leaves, with what was done ahead of it. -/
theorem DPost.after {w : World} {X X1 : Nat → Prop} {gd : Nat} {wr w1 : World} {r : Int × Dk} {e : Ending} {w' : World} (ho : Only X wr w1) (hX : ∀ k, X1 k → X k ∨ wr.heap.size ≤ k) (hp : DPost w X1 gd w1 r e w') : DPost w X gd wr r e w' := by
  obtain ⟨he, h1, X', h2, h3⟩ := hp
  refine ⟨he, ⟨h1.os.trans ho.os, h1.tape.trans ho.tape, h1.output.trans ho.output, Nat.le_trans ho.size h1.size, fun k hk hn => ?_⟩, X', fun k hk => ?_, h3⟩
  · rw [h1.block k (Nat.lt_of_lt_of_le hk ho.size) fun hx => by
      rcases hX k hx with h | h
      · exact hn h
      · omega]
    exact ho.block k hk hn
  · rcases h2 k hk with h | h
    · exact hX k h
    · exact .inr (Nat.le_trans ho.size h)

theorem Only.next {X : Nat → Prop} {w w1 w2 : World} (h : Only X w w1) (g : Below w1.heap.size w1 w2) : Only X w w2 :=
  ⟨g.os.trans h.os, g.tape.trans h.tape, g.output.trans h.output, Nat.le_trans h.size g.size, fun k hk hn => (g.block k (Nat.lt_of_lt_of_le hk h.size)).trans (h.block k hk hn)⟩

theorem Only.thn {X X1 : Nat → Prop} {w w1 w2 : World} (h : Only X w w1) (hX : ∀ k, X1 k → X k ∨ w.heap.size ≤ k) (g : Only X1 w1 w2) : Only X w w2 :=
  ⟨g.os.trans h.os, g.tape.trans h.tape, g.output.trans h.output, Nat.le_trans h.size g.size, fun k hk hn => (g.block k (Nat.lt_of_lt_of_le hk h.size) fun hx => by
    rcases hX k hx with h | h
    · exact hn h
    · omega).trans (h.block k hk hn)⟩

/-- Bytes of a row of its own, told to a call. -/
theorem DS.told {w wr : World} {X : Nat → Prop} {gd : Nat} {d : Dk} (h : DS w X gd d wr) {L : List UInt8} {v : Value} (hv : RepB wr (fun k => k < wr.heap.size ∧ ¬ X k) L v) (t : TypeId) {W : World} (hW : W = wr.alloc (.cells #[v] t)) :
    DS w X gd d W ∧ RepBl W (fun b => (b < wr.heap.size ∧ ¬ X b) ∨ b = wr.heap.size) [L] (.slice (some ⟨wr.heap.size, 0, none⟩) 1 1) ∧ ∀ k, ((k < wr.heap.size ∧ ¬ X k) ∨ k = wr.heap.size) → k < W.heap.size ∧ ¬ X k := by
  subst hW
  refine ⟨h.alloc _, RepBl.one hv rfl (fun k hk => hk.1), fun k hk => ⟨by rcases hk with hk | hk <;> (simp; omega), fun hx => by
    have := h.lt k hx
    rcases hk with hk | hk
    · exact hk.2 hx
    · omega⟩⟩

theorem saveF_well {d : Dk} (h : Well d) (s : ByteArray) (b : List UInt8) : Well (saveF d s b).2 ∧ D.used (saveF d s b).2.fs ≤ D.used d.fs + b.length := by
  have h1 : Well (if D.isThere d.fs s then D.remove d [s] else (0, d)).2 ∧ D.used (if D.isThere d.fs s then D.remove d [s] else (0, d)).2.fs ≤ D.used d.fs := by
    split
    · exact remove_well h [s]
    · exact ⟨h, Nat.le_refl _⟩
  unfold saveF
  simp only
  obtain ⟨r, hr⟩ : ∃ r, r = (if D.isThere d.fs s then D.remove d [s] else (0, d)) := ⟨_, rfl⟩
  rw [← hr] at h1 ⊢
  split
  · exact ⟨h1.1, by omega⟩
  · have h2 := append_well h1.1 s [b]
    have e : [b].flatten.length = b.length := by simp
    rw [e] at h2
    split
    · exact ⟨h2.1, by omega⟩
    · have h3 := sync_well h2.1 [s]
      exact ⟨h3.1, by omega⟩

set_option maxRecDepth 20000 in
set_option maxHeartbeats 3200000 in
theorem write_any (d : Dk) (X : Nat → Prop) (gd : Nat) (nm : ByteArray) (c t v : Nat) (w wr : World) (hds : DS w X gd d wr) (hn : nm.size ≤ 9223372036854775807) (hc : c ≤ 4611686018427387904) (ht : t < 4611686018427387904) (hv : v ≤ 4611686018427387904) (hu : D.used d.fs ≤ 1000000000) (hT : Hid (Tab w)) :
    Calls Tryd.prog 18 #[.pointer (some ⟨gd, 0, none⟩), .string nm, .agg #[.int .i64 (c : Int), .int .i64 (t : Int), .int .i64 ((v : Int) - 1)]] wr (DPost w X gd wr (saveF d nm (slotForm c ((t : Int), (v : Int) - 1)))) := by
  obtain ⟨W, hW⟩ : ∃ W, W = wr.alloc (.cells #[.int .i64 (c : Int), .int .i64 (t : Int), .int .i64 ((v : Int) - 1)] 55) := ⟨_, rfl⟩
  have HBW : Hid (Below wr.heap.size wr W) := Lib.hid (by rw [hW]; exact below_alloc _ _)
  have HDW : Hid (DS w X gd d W) := Lib.hid (by rw [hW]; exact hds.alloc _)
  have hbox : W.heap[wr.heap.size]? = some (.cells #[.int .i64 (c : Int), .int .i64 (t : Int), .int .i64 ((v : Int) - 1)] 55) := by rw [hW]; exact heap_new _ _ _ rfl
  have HBOX := Lib.hid hbox
  have HXX : Hid (¬ X wr.heap.size) := Lib.hid fun h => by have := hds.lt _ h; omega
  have HW := Lib.hid hW
  have HWE : Hid (Well d) := Lib.hid hds.well
  obtain ⟨S, hS⟩ : ∃ S, S = slotForm c ((t : Int), (v : Int) - 1) := ⟨_, rfl⟩
  rw [← hS]
  have HS := Lib.hid hS
  have HSL : Hid (S.length ≤ 31) := Lib.hid (by rw [hS]; exact slotForm_le _ _)
  clear hW hbox hds hS
  go_enter Tryd.func18, Tryd.ntmps18
  go_wp2_with fail
  rw [← HW.out]
  refine (PRead_any d X gd nm W HDW.out.dsk HWE.out.1.2.1 hn (by omega)).mono ?_
  rintro e w1 ⟨u, rfl, hown⟩
  have HD1 : Hid (DS w X gd d w1) := Lib.hid (HDW.out.next hown.1)
  have HO1 : Hid (Only X wr w1) := Lib.hid (Only.of_below (HBW.out.trans (hown.1.mono HBW.out.size)))
  have HX1 := Lib.hid (old_below HBOX.out hown.1)
  clear hown
  cases hth : D.isThere d.fs nm with
  | false =>
    obtain ⟨d1, hd1⟩ : ∃ d1, d1 = d := ⟨_, rfl⟩
    obtain ⟨X1, hX1⟩ : ∃ X1, X1 = X := ⟨_, rfl⟩
    obtain ⟨w2, hw2⟩ : ∃ w2, w2 = w1 := ⟨_, rfl⟩
    have HSV : Hid (saveF d nm S = if (D.append d1 nm [S]).1 ≠ 0 then D.append d1 nm [S] else D.sync (D.append d1 nm [S]).2 [nm]) := Lib.hid (by
      unfold saveF
      rw [hth, hd1]
      rfl)
    have HD2 : Hid (DS w X1 gd d1 w2) := by rw [hd1, hX1, hw2]; exact HD1
    have HO2 : Hid (Only X wr w2) := by rw [hw2]; exact HO1
    have HXS : Hid (∀ k, X1 k → X k ∨ wr.heap.size ≤ k) := Lib.hid fun k hk => .inl (by rw [← hX1]; exact hk)
    have HX2 : Hid (w2.heap[wr.heap.size]? = some (.cells #[.int .i64 (c : Int), .int .i64 (t : Int), .int .i64 ((v : Int) - 1)] 55)) := by rw [hw2]; exact HX1
    have HU2 : Hid (D.used d1.fs ≤ 1000000000) := Lib.hid (by rw [hd1]; exact hu)
    rw [← hw2]
    clear hth hd1 hX1 hw2
    obtain ⟨c0, c1, c2, f0, f1, f2, hz⟩ := block3 HX2.out
    go_wp2_with fail
    refine (bytes_any c t v w2 hc ht hv (HD2.out.tab hT)).mono ?_
    rintro e w3 ⟨u3, rfl, hown3⟩
    rw [← HS.out] at hown3
    have HD3 : Hid (DS w X1 gd d1 w3) := Lib.hid (HD2.out.next hown3.1)
    have HO3 : Hid (Only X wr w3) := Lib.hid (HO2.out.next hown3.1)
    obtain ⟨ua, uc, rfl⟩ := hown3.slice
    have HU3 : Hid (RepB w3 (fun k => k < w3.heap.size ∧ ¬ X1 k) S (.slice ua S.length uc)) := Lib.hid (hown3.rep.weak fun k hk => ⟨hk.2, fun hx => by
      have := HD2.out.lt k hx
      omega⟩)
    clear hown3 c0 c1 c2 f0 f1 f2 hz
    go_wp2_with fail
    obtain ⟨a1, a2, a3⟩ := HD3.out.told HU3.out 65 rfl
    refine (DAppend a1 nm [S] _ _ hn a2 a3 (by have h1 := HU2.out; have h2 := HSL.out; simp; omega)).mono ?_
    rintro e w4 ⟨rfl, ho4, X4, hx4, h4⟩
    have HXS4 : Hid (∀ k, X4 k → X k ∨ wr.heap.size ≤ k) := Lib.hid fun k hk => by
      rcases hx4 k hk with h | h
      · exact HXS.out k h
      · have h5 := HO3.out.size
        simp only [World.size_alloc] at h
        exact .inr (by omega)
    have HO4 : Hid (Only X wr w4) := Lib.hid ((HO3.out.next (below_alloc _ _)).thn HXS.out ho4)
    obtain ⟨r, hr⟩ : ∃ r, r = D.append d1 nm [S] := ⟨_, rfl⟩
    rw [← hr] at HSV h4 ⊢
    clear a1 a2 a3 ho4 hx4 hr
    obtain ⟨r1, r2⟩ := r
    have HD4 := Lib.hid h4
    simp only at HSV
    clear h4
    by_cases hr0 : r1 = 0
    · subst hr0
      have HSV2 : Hid (saveF d nm S = D.sync r2 [nm]) := Lib.hid (by rw [HSV.out, if_neg (by simp)])
      clear HSV
      go_wp2_with fail
      obtain ⟨a1, a2, a3⟩ := HD4.out.names [nm] 1 rfl (by simp) 9 rfl
      refine (DSync a1 [nm] _ _ (by simpa using hn) a2 a3).mono ?_
      intro e w5 hp5
      rw [← HSV2.out] at hp5
      have HP5 := Lib.hid (DPost.after (HO4.out.next (below_alloc _ _)) HXS4.out hp5)
      have he := HP5.out.1
      subst he
      clear hp5 a1 a2 a3
      go_wp2_with fail
      go_ret
      exact HP5.out
    · have q1 : (r1 != 0) = true := by simpa using hr0
      have HSV2 : Hid (saveF d nm S = (r1, r2)) := Lib.hid (by rw [HSV.out, if_pos hr0])
      clear HSV hr0
      go_wp2_with fail
      go_ret
      rw [HSV2.out]
      exact ⟨rfl, HO4.out, X4, HXS4.out, HD4.out⟩
  | true =>
    go_wp2_with fail
    obtain ⟨a1, a2, a3⟩ := HD1.out.names [nm] 1 rfl (by simp) 9 rfl
    refine (DRemove a1 [nm] _ _ (by simpa using hn) a2 a3).mono ?_
    rintro e w2 ⟨rfl, ho2, X1, hx1, h2⟩
    have HXS : Hid (∀ k, X1 k → X k ∨ wr.heap.size ≤ k) := Lib.hid fun k hk => by
      rcases hx1 k hk with h | h
      · exact .inl h
      · have h5 := HO1.out.size
        simp only [World.size_alloc] at h
        exact .inr (by omega)
    have HO2 : Hid (Only X wr w2) := Lib.hid ((HO1.out.next (below_alloc _ _)).thn (fun k hk => .inl hk) ho2)
    have hsz := HX1.out
    have HX2 : Hid (w2.heap[wr.heap.size]? = some (.cells #[.int .i64 (c : Int), .int .i64 (t : Int), .int .i64 ((v : Int) - 1)] 55)) := Lib.hid (by
      have h5 := lt_of_heap HX1.out
      rw [ho2.block _ (by simp; omega) HXX.out]
      exact old_alloc HX1.out)
    have hwl := remove_well HWE.out [nm]
    obtain ⟨r, hr⟩ : ∃ r, r = D.remove d [nm] := ⟨_, rfl⟩
    rw [← hr] at h2 hwl ⊢
    have HSV0 : Hid (saveF d nm S = if r.1 ≠ 0 then r else if (D.append r.2 nm [S]).1 ≠ 0 then D.append r.2 nm [S] else D.sync (D.append r.2 nm [S]).2 [nm]) := Lib.hid (by
      unfold saveF
      rw [hth, hr]
      rfl)
    clear hr a1 a2 a3 ho2 hx1 hsz hth
    obtain ⟨r1, d1⟩ := r
    have HD2 := Lib.hid h2
    have HU2 : Hid (D.used d1.fs ≤ 1000000000) := Lib.hid (Nat.le_trans hwl.2 hu)
    clear h2 hwl
    simp only at HSV0
    by_cases hr0 : r1 = 0
    · subst hr0
      have HSV : Hid (saveF d nm S = if (D.append d1 nm [S]).1 ≠ 0 then D.append d1 nm [S] else D.sync (D.append d1 nm [S]).2 [nm]) := Lib.hid (by rw [HSV0.out, if_neg (by simp)])
      clear HSV0
      simp only
      obtain ⟨c0, c1, c2, f0, f1, f2, hz⟩ := block3 HX2.out
      go_wp2_with fail
      refine (bytes_any c t v w2 hc ht hv (HD2.out.tab hT)).mono ?_
      rintro e w3 ⟨u3, rfl, hown3⟩
      rw [← HS.out] at hown3
      have HD3 : Hid (DS w X1 gd d1 w3) := Lib.hid (HD2.out.next hown3.1)
      have HO3 : Hid (Only X wr w3) := Lib.hid (HO2.out.next hown3.1)
      obtain ⟨ua, uc, rfl⟩ := hown3.slice
      have HU3 : Hid (RepB w3 (fun k => k < w3.heap.size ∧ ¬ X1 k) S (.slice ua S.length uc)) := Lib.hid (hown3.rep.weak fun k hk => ⟨hk.2, fun hx => by
        have := HD2.out.lt k hx
        omega⟩)
      clear hown3 c0 c1 c2 f0 f1 f2 hz
      go_wp2_with fail
      obtain ⟨a1, a2, a3⟩ := HD3.out.told HU3.out 65 rfl
      refine (DAppend a1 nm [S] _ _ hn a2 a3 (by have h1 := HU2.out; have h2 := HSL.out; simp; omega)).mono ?_
      rintro e w4 ⟨rfl, ho4, X4, hx4, h4⟩
      have HXS4 : Hid (∀ k, X4 k → X k ∨ wr.heap.size ≤ k) := Lib.hid fun k hk => by
        rcases hx4 k hk with h | h
        · exact HXS.out k h
        · have h5 := HO3.out.size
          simp only [World.size_alloc] at h
          exact .inr (by omega)
      have HO4 : Hid (Only X wr w4) := Lib.hid ((HO3.out.next (below_alloc _ _)).thn HXS.out ho4)
      obtain ⟨r, hr⟩ : ∃ r, r = D.append d1 nm [S] := ⟨_, rfl⟩
      rw [← hr] at HSV h4 ⊢
      clear a1 a2 a3 ho4 hx4 hr
      obtain ⟨r1, r2⟩ := r
      have HD4 := Lib.hid h4
      simp only at HSV
      clear h4
      by_cases hr0 : r1 = 0
      · subst hr0
        have HSV2 : Hid (saveF d nm S = D.sync r2 [nm]) := Lib.hid (by rw [HSV.out, if_neg (by simp)])
        clear HSV
        go_wp2_with fail
        obtain ⟨a1, a2, a3⟩ := HD4.out.names [nm] 1 rfl (by simp) 9 rfl
        refine (DSync a1 [nm] _ _ (by simpa using hn) a2 a3).mono ?_
        intro e w5 hp5
        rw [← HSV2.out] at hp5
        have HP5 := Lib.hid (DPost.after (HO4.out.next (below_alloc _ _)) HXS4.out hp5)
        have he := HP5.out.1
        subst he
        clear hp5 a1 a2 a3
        go_wp2_with fail
        go_ret
        exact HP5.out
      · have q1 : (r1 != 0) = true := by simpa using hr0
        have HSV2 : Hid (saveF d nm S = (r1, r2)) := Lib.hid (by rw [HSV.out, if_pos hr0])
        clear HSV hr0
        go_wp2_with fail
        go_ret
        rw [HSV2.out]
        exact ⟨rfl, HO4.out, X4, HXS4.out, HD4.out⟩
    · have q1 : (r1 != 0) = true := by simpa using hr0
      have HSV2 : Hid (saveF d nm S = (r1, d1)) := Lib.hid (by rw [HSV0.out, if_pos hr0])
      clear HSV0 hr0
      go_wp2_with fail
      go_ret
      rw [HSV2.out]
      exact ⟨rfl, HO2.out, X1, HXS.out, HD2.out⟩
end Go.Proofs.YtikcdchmggdmdaaDoor.M

/- Part: PHard6. -/
namespace Go.Proofs.YtikcdchmggdmdaaDoor.M
open Go.RowKit Go.Maps
open D (Fl Dk)

/-- What keeps a disk's state, in a law's own memory. -/
structure HS (w : World) (X : Nat → Prop) (gd gh : Nat) (d : Dk) (has : Int × Int) (wr : World) : Prop where
  ds : DS w X gd d wr
  blk : wr.heap[gh]? = some (.cells #[.int .i64 has.1, .int .i64 has.2, .pointer (some ⟨gd, 0, none⟩)] 43)
  out : ¬ X gh
  new : w.heap.size ≤ gh

theorem HS.next {w wr w' : World} {X : Nat → Prop} {gd gh : Nat} {d : Dk} {has : Int × Int} (h : HS w X gd gh d has wr) (hb : Below wr.heap.size wr w') : HS w X gd gh d has w' :=
  ⟨h.ds.next hb, old_below h.blk hb, h.out, h.new⟩

theorem follows_one (s e : Int × Int) : followsAll s [e] = follows s e := by
  obtain ⟨st, sv⟩ := s
  obtain ⟨et, ev⟩ := e
  rw [Bool.eq_iff_iff]
  unfold followsAll isState may follows
  simp
  constructor
  · rintro ⟨⟨h1, h2⟩, h3⟩
    refine ⟨h1, h2, ?_⟩
    omega
  · rintro ⟨h1, h2, h3⟩
    refine ⟨⟨h1, h2⟩, ?_⟩
    omega

theorem slot_lt (L : List UInt8) : (slot L).1 < top := by
  unfold slot
  split
  · decide
  · split
    · decide
    · split
      · split
        · rename_i h; exact h.1
        · decide
      · decide

theorem newest_lt (fs : List Fl) : (newest fs).2.1 < top := by
  unfold newest
  split
  · decide
  · split
    · exact slot_lt _
    · exact slot_lt _

theorem RepSts.one {w : World} {s : Int × Int} {t : TypeId} {g : Nat} (hg : g = w.heap.size) :
    RepSts (w.alloc (.cells #[.int .i64 s.1, .int .i64 s.2] t)) (fun k => k = g) [s] (.slice (some ⟨g, 0, none⟩) 1 1) := by
  subst hg
  have h := fun j => cell_of_row _ w.heap.size j _ t _ (heap_alloc_new w (.cells #[.int .i64 s.1, .int .i64 s.2] t))
  refine .inr ⟨w.heap.size, 0, 1, rfl, rfl, Nat.le_refl _, by omega, fun i hi => ?_⟩
  obtain rfl : i = 0 := by simpa using hi
  exact ⟨h 0, h 1⟩

theorem DS.set {w wr : World} {X : Nat → Prop} {gd : Nat} {d : Dk} (h : DS w X gd d wr) {g j : Nat} {v : Value} (hg : w.heap.size ≤ g) (hX : ¬ X g) : DS w X gd d (wr.setCell ⟨g, j, none⟩ v) :=
  ⟨h.below.setCell hg v, h.own, ⟨h.dsk.1.same (fun _ h => h) fun k hk => Below.heap_setCell _ _ _ _ (fun e => hX (by rw [← show k = g from e]; exact hk)), fun k hk => by rw [World.size_setCell]; exact h.dsk.2 k hk⟩, h.well⟩

theorem heap_set2 {w : World} {g : Nat} {a b c x y : Value} {t : TypeId} (h : w.heap[g]? = some (.cells #[a, b, c] t)) :
    ((w.setCell ⟨g, 0, none⟩ x).setCell ⟨g, 1, none⟩ y).heap[g]? = some (.cells #[x, y, c] t) := by
  simp [World.setCell, Array.getElem?_modify, h]

/-- What Save leaves. -/
def SPost (w : World) (X : Nat → Prop) (gd gh : Nat) (wr : World) (d : Dk) (has s : Int × Int) (e : Ending) (w' : World) : Prop :=
  e = .returned (.int .i64 (save d has s).1) ∧ ∃ X', (∀ k, X' k → X k ∨ wr.heap.size ≤ k) ∧ HS w X' gd gh (save d has s).2 (if (save d has s).1 = 0 then s else has) w' ∧ Only (fun k => X k ∨ k = gh) wr w'

theorem sPost_of {w : World} {X : Nat → Prop} {gd gh : Nat} {wr : World} {d d' : Dk} {has s has' : Int × Int} {r : Int} {w' : World} {X' : Nat → Prop} (hs : save d has s = (r, d')) (hh : has' = if r = 0 then s else has) (hX : ∀ k, X' k → X k ∨ wr.heap.size ≤ k) (h : HS w X' gd gh d' has' w') (ho : Only (fun k => X k ∨ k = gh) wr w') :
    SPost w X gd gh wr d has s (.returned (.int .i64 r)) w' := by
  unfold SPost
  rw [hs]
  subst hh
  exact ⟨rfl, X', hX, h, ho⟩

set_option maxRecDepth 20000 in
set_option maxHeartbeats 6400000 in
theorem Save_any (d : Dk) (X : Nat → Prop) (gd gh : Nat) (has s : Int × Int) (w wr : World) (h : HS w X gd gh d has wr) (hu : D.used d.fs ≤ 1000000000) (hT : Hid (Tab w)) :
    Calls Tryd.prog 12 #[.pointer (some ⟨gh, 0, none⟩), .agg #[.int .i64 s.1, .int .i64 s.2]] wr (SPost w X gd gh wr d has s) := by
  obtain ⟨W, hW⟩ : ∃ W, W = wr.alloc (.cells #[.int .i64 s.1, .int .i64 s.2] 23) := ⟨_, rfl⟩
  have HBW : Hid (Below wr.heap.size wr W) := Lib.hid (by rw [hW]; exact below_alloc _ _)
  have hbox : W.heap[wr.heap.size]? = some (.cells #[.int .i64 s.1, .int .i64 s.2] 23) := by rw [hW]; exact heap_new _ _ _ rfl
  have HBOX := Lib.hid hbox
  have HH := Lib.hid h
  have hbk : W.heap[gh]? = _ := (h.next HBW.out).blk
  have HBK := Lib.hid hbk
  have HW := Lib.hid hW
  have HU := Lib.hid hu
  obtain ⟨st, sv⟩ := s
  obtain ⟨et, ev⟩ := has
  have HF : Hid (Calls Tryd.prog 8 #[.agg #[.int .i64 st, .int .i64 sv], .slice (some ⟨W.heap.size, 0, none⟩) 1 1] (W.alloc (.cells #[.int .i64 et, .int .i64 ev] 23)).drew fun r w' => r = .returned (.bool (follows (st, sv) (et, ev))) ∧ Below W.heap.size W w') := Lib.hid (by
    have := Follows_any (st, sv) [(et, ev)] (fun k => k = W.heap.size) _ (W.alloc (.cells #[.int .i64 et, .int .i64 ev] 23)).drew ((RepSts.one (w := W) (s := (et, ev)) (t := 23) rfl).same (fun _ h => h) fun _ _ => rfl) (fun k hk => by simp; omega)
    rw [follows_one] at this
    exact this.mono fun r w' h => ⟨h.1, (below_alloc W _).drew.trans (h.2.mono (by simp))⟩)
  obtain ⟨k0, k1, -, -, kz⟩ := block2 hbox
  obtain ⟨b0, b1, b2, -, -, -, bz⟩ := block3 hbk
  have hS : Below W.heap.size W W.drew := (Below.refl _ _).drew
  have q0 : ∀ w', Below W.heap.size W w' → w'.cell? ⟨wr.heap.size, 0, none⟩ = some (.int .i64 st) := fun w' hw' => (hw'.cell kz).trans k0
  have q1 : ∀ w', Below W.heap.size W w' → w'.cell? ⟨wr.heap.size, 1, none⟩ = some (.int .i64 sv) := fun w' hw' => (hw'.cell kz).trans k1
  have r0 : ∀ w', Below W.heap.size W w' → w'.cell? ⟨gh, 0, none⟩ = some (.int .i64 et) := fun w' hw' => (hw'.cell bz).trans b0
  have r1 : ∀ w', Below W.heap.size W w' → w'.cell? ⟨gh, 1, none⟩ = some (.int .i64 ev) := fun w' hw' => (hw'.cell bz).trans b1
  clear hW hbox h hu hbk k0 k1 b0 b1 b2
  go_enter Tryd.func12, Tryd.ntmps12
  go_wp2_with fail
  rw [← HW.out]
  refine wp_region_held (S := fun w' => Below W.heap.size W w') (by kernel_rfl) ?_
  refine H_take (i := 0) (v := ?_) rfl (by as_aux_lemma => kernel_rfl) (by as_aux_lemma => kernel_rfl) (by as_aux_lemma => kernel_rfl) (fun _ _ _ h => h) (by rfl) hS ?_ ?_
  rotate_left
  · intro w' hw'; go_simp; with_reducible rfl
  go_simp
  refine H_take (i := 1) (v := ?_) rfl (by as_aux_lemma => kernel_rfl) (by as_aux_lemma => kernel_rfl) (by as_aux_lemma => kernel_rfl) (fun _ _ _ h => h) (by rfl) hS ?_ ?_
  rotate_left
  · intro w' hw'; go_simp; with_reducible rfl
  go_simp
  refine H_take (i := 2) (v := ?_) rfl (by as_aux_lemma => kernel_rfl) (by as_aux_lemma => kernel_rfl) (by as_aux_lemma => kernel_rfl) (fun _ _ _ h => h) (by rfl) hS ?_ ?_
  rotate_left
  · intro w' hw'; go_simp; with_reducible rfl
  go_simp
  refine H_take (i := 3) (v := ?_) rfl (by as_aux_lemma => kernel_rfl) (by as_aux_lemma => kernel_rfl) (by as_aux_lemma => kernel_rfl) (fun _ _ _ h => h) (by rfl) hS ?_ ?_
  rotate_left
  · intro w' hw'; go_simp; with_reducible rfl
  go_simp
  refine H_take (i := 4) (v := ?_) rfl (by as_aux_lemma => kernel_rfl) (by as_aux_lemma => kernel_rfl) (by as_aux_lemma => kernel_rfl) (fun _ _ _ h => h) (by rfl) hS ?_ ?_
  rotate_left
  · intro w' hw'; go_simp; with_reducible rfl
  go_simp
  refine H_one (i := 5) (by as_aux_lemma => kernel_rfl) rfl (by rfl) ?_
  go_simp
  have hS2 : Below W.heap.size W (W.alloc (.cells #[.int .i64 et, .int .i64 ev] 23)).drew := (below_alloc W _).drew
  refine ⟨hS2, ?_⟩
  refine H_one (i := 6) (by as_aux_lemma => kernel_rfl) rfl (by rfl) ?_
  go_simp
  refine HF.out.mono ?_
  rintro e w2 ⟨rfl, hb2⟩
  refine ⟨hb2, ?_⟩
  obtain ⟨f, hf⟩ : ∃ f, f = follows (st, sv) (et, ev) := ⟨_, rfl⟩
  rw [← hf]
  have HFO := Lib.hid hf
  have HB2 : Hid (Below wr.heap.size wr w2) := Lib.hid (HBW.out.trans (hb2.mono HBW.out.size))
  have HX2 := Lib.hid (old_below HBOX.out hb2)
  have HK2 := Lib.hid (old_below HBK.out hb2)
  clear hf hS hS2
  cases f with
  | false =>
    refine H_take (i := 7) (v := ?_) rfl (by as_aux_lemma => kernel_rfl) (by as_aux_lemma => kernel_rfl) (by as_aux_lemma => kernel_rfl) (fun _ _ _ h => h) (by rfl) hb2 ?_ ?_
    rotate_left
    · intro w' hw'; go_simp; with_reducible rfl
    go_simp
    refine H_take (i := 8) (v := ?_) rfl (by as_aux_lemma => kernel_rfl) (by as_aux_lemma => kernel_rfl) (by as_aux_lemma => kernel_rfl) (fun _ _ _ h => h) (by rfl) hb2 ?_ ?_
    rotate_left
    · intro w' hw'; go_simp; with_reducible rfl
    go_simp
    refine H_skip (i := 9) rfl (by as_aux_lemma => kernel_rfl) (by as_aux_lemma => kernel_rfl) (by as_aux_lemma => kernel_rfl) (fun _ _ _ h => h) (by rfl) hb2 ?_
    go_simp
    refine H_skip (i := 10) rfl (by as_aux_lemma => kernel_rfl) (by as_aux_lemma => kernel_rfl) (by as_aux_lemma => kernel_rfl) (fun _ _ _ h => h) (by rfl) hb2 ?_
    go_simp
    refine H_skip (i := 11) rfl (by as_aux_lemma => kernel_rfl) (by as_aux_lemma => kernel_rfl) (by as_aux_lemma => kernel_rfl) (fun _ _ _ h => h) (by rfl) hb2 ?_
    go_simp
    refine H_take (i := 12) (v := ?_) rfl (by as_aux_lemma => kernel_rfl) (by as_aux_lemma => kernel_rfl) (by as_aux_lemma => kernel_rfl) (fun _ _ _ h => h) (by rfl) hb2 ?_ ?_
    rotate_left
    · intro w' hw'; go_simp; with_reducible rfl
    go_simp
    refine H_take (i := 13) (v := ?_) rfl (by as_aux_lemma => kernel_rfl) (by as_aux_lemma => kernel_rfl) (by as_aux_lemma => kernel_rfl) (fun _ _ _ h => h) (by rfl) hb2 ?_ ?_
    rotate_left
    · intro w' hw'; go_simp; with_reducible rfl
    go_simp
    refine H_skip (i := 14) rfl (by as_aux_lemma => kernel_rfl) (by as_aux_lemma => kernel_rfl) (by as_aux_lemma => kernel_rfl) (fun _ _ _ h => h) (by rfl) hb2 ?_
    go_simp
    refine H_skip (i := 15) rfl (by as_aux_lemma => kernel_rfl) (by as_aux_lemma => kernel_rfl) (by as_aux_lemma => kernel_rfl) (fun _ _ _ h => h) (by rfl) hb2 ?_
    go_simp
    refine H_skip (i := 16) rfl (by as_aux_lemma => kernel_rfl) (by as_aux_lemma => kernel_rfl) (by as_aux_lemma => kernel_rfl) (fun _ _ _ h => h) (by rfl) hb2 ?_
    go_simp
    refine H_take (i := 17) (v := ?_) rfl (by as_aux_lemma => kernel_rfl) (by as_aux_lemma => kernel_rfl) (by as_aux_lemma => kernel_rfl) (fun _ _ _ h => h) (by rfl) hb2 ?_ ?_
    rotate_left
    · intro w' hw'; go_simp; with_reducible rfl
    go_simp
    refine wpAnyH_done (by as_aux_lemma => kernel_rfl) ?_ _
    clear q0 q1 r0 r1 hb2
    have HE : Hid (save d (et, ev) (st, sv) = (2, d)) := Lib.hid (by unfold save; rw [if_pos (.inl HFO.out.symm)])
    go_wp2_with fail
    go_ret
    exact sPost_of HE.out rfl (fun k hk => .inl hk) (HH.out.next HB2.out) (Only.of_below HB2.out)
  | true =>
    by_cases h1 : (4611686018427387904 : Int) ≤ st
    · skip
      refine H_take (i := 7) (v := ?_) rfl (by as_aux_lemma => kernel_rfl) (by as_aux_lemma => kernel_rfl) (by as_aux_lemma => kernel_rfl) (fun _ _ _ h => h) (by rfl) hb2 ?_ ?_
      rotate_left
      · intro w' hw'; go_simp; with_reducible rfl
      go_simp
      refine H_take (i := 8) (v := ?_) rfl (by as_aux_lemma => kernel_rfl) (by as_aux_lemma => kernel_rfl) (by as_aux_lemma => kernel_rfl) (fun _ _ _ h => h) (by rfl) hb2 ?_ ?_
      rotate_left
      · intro w' hw'; go_simp; with_reducible rfl
      go_simp
      refine H_take (i := 9) (v := ?_) rfl (by as_aux_lemma => kernel_rfl) (by as_aux_lemma => kernel_rfl) (by as_aux_lemma => kernel_rfl) (fun _ _ _ h => h) (by rfl) hb2 ?_ ?_
      rotate_left
      · intro w' hw'; go_simp; with_reducible rfl
      go_simp
      refine H_take (i := 10) (v := ?_) rfl (by as_aux_lemma => kernel_rfl) (by as_aux_lemma => kernel_rfl) (by as_aux_lemma => kernel_rfl) (fun _ _ _ h => h) (by rfl) hb2 ?_ ?_
      rotate_left
      · intro w' hw'; go_simp; with_reducible rfl
      go_simp
      refine H_take (i := 11) (v := ?_) rfl (by as_aux_lemma => kernel_rfl) (by as_aux_lemma => kernel_rfl) (by as_aux_lemma => kernel_rfl) (fun _ _ _ h => h) (by rfl) hb2 ?_ ?_
      rotate_left
      · intro w' hw'; go_simp; with_reducible rfl
      go_simp
      refine H_take (i := 12) (v := ?_) rfl (by as_aux_lemma => kernel_rfl) (by as_aux_lemma => kernel_rfl) (by as_aux_lemma => kernel_rfl) (fun _ _ _ h => h) (by rfl) hb2 ?_ ?_
      rotate_left
      · intro w' hw'; go_simp; with_reducible rfl
      go_simp
      refine H_take (i := 13) (v := ?_) rfl (by as_aux_lemma => kernel_rfl) (by as_aux_lemma => kernel_rfl) (by as_aux_lemma => kernel_rfl) (fun _ _ _ h => h) (by rfl) hb2 ?_ ?_
      rotate_left
      · intro w' hw'; go_simp; with_reducible rfl
      go_simp
      refine H_skip (i := 14) rfl (by as_aux_lemma => kernel_rfl) (by as_aux_lemma => kernel_rfl) (by as_aux_lemma => kernel_rfl) (fun _ _ _ h => h) (by rfl) hb2 ?_
      go_simp
      refine H_skip (i := 15) rfl (by as_aux_lemma => kernel_rfl) (by as_aux_lemma => kernel_rfl) (by as_aux_lemma => kernel_rfl) (fun _ _ _ h => h) (by rfl) hb2 ?_
      go_simp
      refine H_skip (i := 16) rfl (by as_aux_lemma => kernel_rfl) (by as_aux_lemma => kernel_rfl) (by as_aux_lemma => kernel_rfl) (fun _ _ _ h => h) (by rfl) hb2 ?_
      go_simp
      refine H_take (i := 17) (v := ?_) rfl (by as_aux_lemma => kernel_rfl) (by as_aux_lemma => kernel_rfl) (by as_aux_lemma => kernel_rfl) (fun _ _ _ h => h) (by rfl) hb2 ?_ ?_
      rotate_left
      · intro w' hw'; go_simp; with_reducible rfl
      go_simp
      refine wpAnyH_done (by as_aux_lemma => kernel_rfl) ?_ _
      clear q0 q1 r0 r1 hb2
      have HE : Hid (save d (et, ev) (st, sv) = (2, d)) := Lib.hid (by unfold save top; rw [if_pos (.inr (.inl h1))])
      go_wp2_with fail
      go_ret
      exact sPost_of HE.out rfl (fun k hk => .inl hk) (HH.out.next HB2.out) (Only.of_below HB2.out)
    · have h1' : decide ((4611686018427387904 : Int) ≤ st) = false := by simp; omega
      by_cases h2 : (4611686018427387904 : Int) ≤ sv
      · skip
        refine H_take (i := 7) (v := ?_) rfl (by as_aux_lemma => kernel_rfl) (by as_aux_lemma => kernel_rfl) (by as_aux_lemma => kernel_rfl) (fun _ _ _ h => h) (by rfl) hb2 ?_ ?_
        rotate_left
        · intro w' hw'; go_simp; with_reducible rfl
        go_simp
        refine H_take (i := 8) (v := ?_) rfl (by as_aux_lemma => kernel_rfl) (by as_aux_lemma => kernel_rfl) (by as_aux_lemma => kernel_rfl) (fun _ _ _ h => h) (by rfl) hb2 ?_ ?_
        rotate_left
        · intro w' hw'; go_simp; with_reducible rfl
        go_simp
        refine H_take (i := 9) (v := ?_) rfl (by as_aux_lemma => kernel_rfl) (by as_aux_lemma => kernel_rfl) (by as_aux_lemma => kernel_rfl) (fun _ _ _ h => h) (by rfl) hb2 ?_ ?_
        rotate_left
        · intro w' hw'; go_simp; with_reducible rfl
        go_simp
        refine H_take (i := 10) (v := ?_) rfl (by as_aux_lemma => kernel_rfl) (by as_aux_lemma => kernel_rfl) (by as_aux_lemma => kernel_rfl) (fun _ _ _ h => h) (by rfl) hb2 ?_ ?_
        rotate_left
        · intro w' hw'; go_simp; with_reducible rfl
        go_simp
        refine H_take (i := 11) (v := ?_) rfl (by as_aux_lemma => kernel_rfl) (by as_aux_lemma => kernel_rfl) (by as_aux_lemma => kernel_rfl) (fun _ _ _ h => h) (by rfl) hb2 ?_ ?_
        rotate_left
        · intro w' hw'; go_simp; with_reducible rfl
        go_simp
        refine H_take (i := 12) (v := ?_) rfl (by as_aux_lemma => kernel_rfl) (by as_aux_lemma => kernel_rfl) (by as_aux_lemma => kernel_rfl) (fun _ _ _ h => h) (by rfl) hb2 ?_ ?_
        rotate_left
        · intro w' hw'; go_simp; with_reducible rfl
        go_simp
        refine H_take (i := 13) (v := ?_) rfl (by as_aux_lemma => kernel_rfl) (by as_aux_lemma => kernel_rfl) (by as_aux_lemma => kernel_rfl) (fun _ _ _ h => h) (by rfl) hb2 ?_ ?_
        rotate_left
        · intro w' hw'; go_simp; with_reducible rfl
        go_simp
        refine H_take (i := 14) (v := ?_) rfl (by as_aux_lemma => kernel_rfl) (by as_aux_lemma => kernel_rfl) (by as_aux_lemma => kernel_rfl) (fun _ _ _ h => h) (by rfl) hb2 ?_ ?_
        rotate_left
        · intro w' hw'; go_simp; with_reducible rfl
        go_simp
        refine H_take (i := 15) (v := ?_) rfl (by as_aux_lemma => kernel_rfl) (by as_aux_lemma => kernel_rfl) (by as_aux_lemma => kernel_rfl) (fun _ _ _ h => h) (by rfl) hb2 ?_ ?_
        rotate_left
        · intro w' hw'; go_simp; with_reducible rfl
        go_simp
        refine H_take (i := 16) (v := ?_) rfl (by as_aux_lemma => kernel_rfl) (by as_aux_lemma => kernel_rfl) (by as_aux_lemma => kernel_rfl) (fun _ _ _ h => h) (by rfl) hb2 ?_ ?_
        rotate_left
        · intro w' hw'; go_simp; with_reducible rfl
        go_simp
        refine H_take (i := 17) (v := ?_) rfl (by as_aux_lemma => kernel_rfl) (by as_aux_lemma => kernel_rfl) (by as_aux_lemma => kernel_rfl) (fun _ _ _ h => h) (by rfl) hb2 ?_ ?_
        rotate_left
        · intro w' hw'; go_simp; with_reducible rfl
        go_simp
        refine wpAnyH_done (by as_aux_lemma => kernel_rfl) ?_ _
        clear q0 q1 r0 r1 hb2
        have HE : Hid (save d (et, ev) (st, sv) = (2, d)) := Lib.hid (by unfold save top; rw [if_pos (.inr (.inr h2))])
        go_wp2_with fail
        go_ret
        exact sPost_of HE.out rfl (fun k hk => .inl hk) (HH.out.next HB2.out) (Only.of_below HB2.out)
      · have h2' : decide ((4611686018427387904 : Int) ≤ sv) = false := by simp; omega
        refine H_take (i := 7) (v := ?_) rfl (by as_aux_lemma => kernel_rfl) (by as_aux_lemma => kernel_rfl) (by as_aux_lemma => kernel_rfl) (fun _ _ _ h => h) (by rfl) hb2 ?_ ?_
        rotate_left
        · intro w' hw'; go_simp; with_reducible rfl
        go_simp
        refine H_take (i := 8) (v := ?_) rfl (by as_aux_lemma => kernel_rfl) (by as_aux_lemma => kernel_rfl) (by as_aux_lemma => kernel_rfl) (fun _ _ _ h => h) (by rfl) hb2 ?_ ?_
        rotate_left
        · intro w' hw'; go_simp; with_reducible rfl
        go_simp
        refine H_take (i := 9) (v := ?_) rfl (by as_aux_lemma => kernel_rfl) (by as_aux_lemma => kernel_rfl) (by as_aux_lemma => kernel_rfl) (fun _ _ _ h => h) (by rfl) hb2 ?_ ?_
        rotate_left
        · intro w' hw'; go_simp; with_reducible rfl
        go_simp
        refine H_take (i := 10) (v := ?_) rfl (by as_aux_lemma => kernel_rfl) (by as_aux_lemma => kernel_rfl) (by as_aux_lemma => kernel_rfl) (fun _ _ _ h => h) (by rfl) hb2 ?_ ?_
        rotate_left
        · intro w' hw'; go_simp; with_reducible rfl
        go_simp
        refine H_take (i := 11) (v := ?_) rfl (by as_aux_lemma => kernel_rfl) (by as_aux_lemma => kernel_rfl) (by as_aux_lemma => kernel_rfl) (fun _ _ _ h => h) (by rfl) hb2 ?_ ?_
        rotate_left
        · intro w' hw'; go_simp; with_reducible rfl
        go_simp
        refine H_take (i := 12) (v := ?_) rfl (by as_aux_lemma => kernel_rfl) (by as_aux_lemma => kernel_rfl) (by as_aux_lemma => kernel_rfl) (fun _ _ _ h => h) (by rfl) hb2 ?_ ?_
        rotate_left
        · intro w' hw'; go_simp; with_reducible rfl
        go_simp
        refine H_take (i := 13) (v := ?_) rfl (by as_aux_lemma => kernel_rfl) (by as_aux_lemma => kernel_rfl) (by as_aux_lemma => kernel_rfl) (fun _ _ _ h => h) (by rfl) hb2 ?_ ?_
        rotate_left
        · intro w' hw'; go_simp; with_reducible rfl
        go_simp
        refine H_take (i := 14) (v := ?_) rfl (by as_aux_lemma => kernel_rfl) (by as_aux_lemma => kernel_rfl) (by as_aux_lemma => kernel_rfl) (fun _ _ _ h => h) (by rfl) hb2 ?_ ?_
        rotate_left
        · intro w' hw'; go_simp; with_reducible rfl
        go_simp
        refine H_take (i := 15) (v := ?_) rfl (by as_aux_lemma => kernel_rfl) (by as_aux_lemma => kernel_rfl) (by as_aux_lemma => kernel_rfl) (fun _ _ _ h => h) (by rfl) hb2 ?_ ?_
        rotate_left
        · intro w' hw'; go_simp; with_reducible rfl
        go_simp
        refine H_take (i := 16) (v := ?_) rfl (by as_aux_lemma => kernel_rfl) (by as_aux_lemma => kernel_rfl) (by as_aux_lemma => kernel_rfl) (fun _ _ _ h => h) (by rfl) hb2 ?_ ?_
        rotate_left
        · intro w' hw'; go_simp; with_reducible rfl
        go_simp
        refine H_take (i := 17) (v := ?_) rfl (by as_aux_lemma => kernel_rfl) (by as_aux_lemma => kernel_rfl) (by as_aux_lemma => kernel_rfl) (fun _ _ _ h => h) (by rfl) hb2 ?_ ?_
        rotate_left
        · intro w' hw'; go_simp; with_reducible rfl
        go_simp
        refine wpAnyH_done (by as_aux_lemma => kernel_rfl) ?_ _
        clear q0 q1 r0 r1 hb2 kz bz
        go_wp2_with fail
        obtain ⟨k0, k1, -, -, kz⟩ := block2 HX2.out
        obtain ⟨b0, b1, b2, -, -, -, bz⟩ := block3 HK2.out
        have q0 : ∀ w', Below w2.heap.size w2 w' → w'.cell? ⟨wr.heap.size, 0, none⟩ = some (.int .i64 st) := fun w' hw' => (hw'.cell kz).trans k0
        have q1 : ∀ w', Below w2.heap.size w2 w' → w'.cell? ⟨wr.heap.size, 1, none⟩ = some (.int .i64 sv) := fun w' hw' => (hw'.cell kz).trans k1
        have r0 : ∀ w', Below w2.heap.size w2 w' → w'.cell? ⟨gh, 0, none⟩ = some (.int .i64 et) := fun w' hw' => (hw'.cell bz).trans b0
        have r1 : ∀ w', Below w2.heap.size w2 w' → w'.cell? ⟨gh, 1, none⟩ = some (.int .i64 ev) := fun w' hw' => (hw'.cell bz).trans b1
        obtain ⟨eqb, heqb⟩ : ∃ eqb, eqb = decide ((st, sv) = (et, ev)) := ⟨_, rfl⟩
        have heq : ∀ w' : World, (Op.equalIn 10000 23 (.agg #[.int .i64 st, .int .i64 sv]) (.agg #[.int .i64 et, .int .i64 ev])).run Tryd.prog w' = .ok eqb w' := fun w' => by
          rw [heqb]
          clear heqb
          go_simp
          by_cases a : st = et <;> by_cases b : sv = ev <;> simp [a, b]
        have HEQ := Lib.hid heqb
        clear heqb k0 k1 b0 b1 b2
        have hS : Below w2.heap.size w2 w2.drew := (Below.refl _ _).drew
        refine wp_region_held (S := fun w' => Below w2.heap.size w2 w') (by kernel_rfl) ?_
        refine H_take (i := 0) (v := ?_) rfl (by as_aux_lemma => kernel_rfl) (by as_aux_lemma => kernel_rfl) (by as_aux_lemma => kernel_rfl) (fun _ _ _ h => h) (by rfl) hS ?_ ?_
        rotate_left
        · intro w' hw'; go_simp; with_reducible rfl
        go_simp
        refine H_take (i := 1) (v := ?_) rfl (by as_aux_lemma => kernel_rfl) (by as_aux_lemma => kernel_rfl) (by as_aux_lemma => kernel_rfl) (fun _ _ _ h => h) (by rfl) hS ?_ ?_
        rotate_left
        · intro w' hw'; go_simp; with_reducible rfl
        go_simp
        refine H_take (i := 2) (v := ?_) rfl (by as_aux_lemma => kernel_rfl) (by as_aux_lemma => kernel_rfl) (by as_aux_lemma => kernel_rfl) (fun _ _ _ h => h) (by rfl) hS ?_ ?_
        rotate_left
        · intro w' hw'; go_simp; with_reducible rfl
        go_simp
        refine H_take (i := 3) (v := ?_) rfl (by as_aux_lemma => kernel_rfl) (by as_aux_lemma => kernel_rfl) (by as_aux_lemma => kernel_rfl) (fun _ _ _ h => h) (by rfl) hS ?_ ?_
        rotate_left
        · intro w' hw'; go_simp; with_reducible rfl
        go_simp
        refine H_take (i := 4) (v := ?_) rfl (by as_aux_lemma => kernel_rfl) (by as_aux_lemma => kernel_rfl) (by as_aux_lemma => kernel_rfl) (fun _ _ _ h => h) (by rfl) hS ?_ ?_
        rotate_left
        · intro w' hw'; go_simp; with_reducible rfl
        go_simp
        refine H_take (i := 5) (v := ?_) rfl (by as_aux_lemma => kernel_rfl) (by as_aux_lemma => kernel_rfl) (by as_aux_lemma => kernel_rfl) (fun _ _ _ h => h) (by rfl) hS ?_ ?_
        rotate_left
        · intro w' hw'; go_simp; with_reducible rfl
        go_simp
        refine wpAnyH_done (by as_aux_lemma => kernel_rfl) ?_ _
        clear q0 q1 r0 r1 hS heq
        cases eqb with
        | true =>
          have HE : Hid (save d (et, ev) (st, sv) = (0, d)) := Lib.hid (by
            have e := of_decide_eq_true HEQ.out.symm
            unfold save
            rw [if_neg (by rw [← HFO.out]; unfold top; simp; omega), if_pos e])
          have HSE : Hid ((st, sv) = (et, ev)) := Lib.hid (of_decide_eq_true HEQ.out.symm)
          go_wp2_with fail
          go_ret
          exact sPost_of (has' := (et, ev)) HE.out (by rw [if_pos rfl, HSE.out]) (fun k hk => .inl hk) (HH.out.next (HB2.out.drew)) (Only.of_below HB2.out.drew)
        | false =>
          have HE : Hid (save d (et, ev) (st, sv) = saveF d (other (newest d.fs).1) (slotForm ((newest d.fs).2.1 + 1) (st, sv))) := Lib.hid (by
            have e := of_decide_eq_false HEQ.out.symm
            unfold save
            rw [if_neg (by rw [← HFO.out]; unfold top; simp; omega), if_neg e])
          have HST : Hid (0 ≤ st ∧ -1 ≤ sv) := Lib.hid (by
            have h3 := HFO.out
            unfold follows at h3
            have h4 := of_decide_eq_true h3.symm
            exact ⟨h4.1, h4.2.1⟩)
          have HTP : Hid (st < 4611686018427387904 ∧ sv < 4611686018427387904) := Lib.hid (by omega)
          obtain ⟨b0, b1, b2, -, -, -, bz⟩ := block3 HK2.out
          clear h1 h2 h1' h2'
          go_wp2_with fail
          have HH2 : Hid (HS w X gd gh d (et, ev) w2.drew) := Lib.hid (HH.out.next HB2.out.drew)
          refine (slots_any d X gd w2.drew HH2.out.ds.dsk HH2.out.ds.well.1.2.1 (by have := HU.out; omega) (HH2.out.ds.tab hT)).mono ?_
          rintro e w4 ⟨rfl, hb4⟩
          have HH4 : Hid (HS w X gd gh d (et, ev) w4) := Lib.hid (HH2.out.next hb4)
          have hb24 : Below w2.heap.size w2 w4 := (Below.refl _ _).drew.trans hb4
          have HX4 := Lib.hid (old_below HX2.out hb24)
          have HB4 : Hid (Below wr.heap.size wr w4) := Lib.hid (HB2.out.trans (hb24.mono HB2.out.size))
          have hnl := newest_lt d.fs
          obtain ⟨n, hn⟩ : ∃ n, n = newest d.fs := ⟨_, rfl⟩
          rw [← hn] at HE hnl ⊢
          clear b0 b1 b2 bz hb4 hb24 hn
          obtain ⟨na, nc, nt, nv⟩ := n
          simp only [slotV] at HE hnl ⊢
          obtain ⟨onm, honm⟩ : ∃ onm, onm = other na := ⟨_, rfl⟩
          rw [← honm] at HE ⊢
          have HON : Hid (onm.size ≤ 9223372036854775807) := Lib.hid (by rw [honm]; unfold other; split <;> decide)
          clear honm
          have hnc : (nc : Int) < 4611686018427387904 := by unfold top at hnl; omega
          clear hnl
          obtain ⟨t, rfl⟩ := Int.eq_ofNat_of_zero_le HST.out.1
          obtain ⟨v, rfl⟩ : ∃ v : Nat, sv = (v : Int) - 1 := ⟨(sv + 1).toNat, by have := HST.out.2; omega⟩
          go_wp2_with fail
          obtain ⟨W5, hW5⟩ : ∃ W5, W5 = w4.alloc (.cells #[.int .i64 (nc : Int), .int .i64 nt, .int .i64 nv] 55) := ⟨_, rfl⟩
          have hb5 : Below w4.heap.size w4 W5 := by rw [hW5]; exact below_alloc _ _
          have hx5 : W5.heap[w4.heap.size]? = some (.cells #[.int .i64 (nc : Int), .int .i64 nt, .int .i64 nv] 55) := by rw [hW5]; exact heap_new _ _ _ rfl
          rw [← hW5]
          have HH5 : Hid (HS w X gd gh d (_, _) W5) := Lib.hid (HH4.out.next hb5)
          have HX5 := Lib.hid (old_below HX4.out hb5)
          have HB5 : Hid (Below wr.heap.size wr W5) := Lib.hid (HB4.out.trans (hb5.mono HB4.out.size))
          obtain ⟨k0, k1, -, -, kz⟩ := block2 HX5.out
          obtain ⟨b0, b1, b2, -, -, -, bz⟩ := block3 HH5.out.blk
          obtain ⟨n0, n1, n2, -, -, -, nz⟩ := block3 hx5
          have hXk : ¬ X wr.heap.size := fun h => by have := HH.out.ds.lt _ h; omega
          have hXn : ¬ X w4.heap.size := fun h => by have := HH4.out.ds.lt _ h; omega
          have hXg := HH.out.out
          have oc : ∀ (w' : World) (g j : Nat) (x : Value), Only X W5 w' → g < W5.heap.size → ¬ X g → W5.cell? ⟨g, j, none⟩ = some x → w'.cell? ⟨g, j, none⟩ = some x := fun w' g j x ho hg hn hx => (World.cell?_of_block (a := ⟨g, j, none⟩) (ho.block g hg hn)).trans hx
          have q0 : ∀ w', Only X W5 w' → w'.cell? ⟨wr.heap.size, 0, none⟩ = some (.int .i64 (t : Int)) := fun w' hw' => oc w' _ _ _ hw' kz hXk k0
          have q1 : ∀ w', Only X W5 w' → w'.cell? ⟨wr.heap.size, 1, none⟩ = some (.int .i64 ((v : Int) - 1)) := fun w' hw' => oc w' _ _ _ hw' kz hXk k1
          have r2 : ∀ w', Only X W5 w' → w'.cell? ⟨gh, 2, none⟩ = some (.pointer (some ⟨gd, 0, none⟩)) := fun w' hw' => oc w' _ _ _ hw' bz hXg b2
          have p0 : ∀ w', Only X W5 w' → w'.cell? ⟨w4.heap.size, 0, none⟩ = some (.int .i64 (nc : Int)) := fun w' hw' => oc w' _ _ _ hw' nz hXn n0
          have hS : Only X W5 W5.drew := Only.of_below (Below.refl _ _).drew
          clear hW5 hb5 hx5 k0 k1 b0 b1 b2 n0 n1 n2 oc
          refine wp_region_held (S := fun w' => Only X W5 w') (by kernel_rfl) ?_
          refine H_take (i := 0) (v := ?_) rfl (by as_aux_lemma => kernel_rfl) (by as_aux_lemma => kernel_rfl) (by as_aux_lemma => kernel_rfl) (fun _ _ _ h => h) (by rfl) hS ?_ ?_
          rotate_left
          · intro w' hw'; go_simp; with_reducible rfl
          go_simp
          refine H_take (i := 1) (v := ?_) rfl (by as_aux_lemma => kernel_rfl) (by as_aux_lemma => kernel_rfl) (by as_aux_lemma => kernel_rfl) (fun _ _ _ h => h) (by rfl) hS ?_ ?_
          rotate_left
          · intro w' hw'; go_simp; with_reducible rfl
          go_simp
          refine H_take (i := 2) (v := ?_) rfl (by as_aux_lemma => kernel_rfl) (by as_aux_lemma => kernel_rfl) (by as_aux_lemma => kernel_rfl) (fun _ _ _ h => h) (by rfl) hS ?_ ?_
          rotate_left
          · intro w' hw'; go_simp; with_reducible rfl
          go_simp
          refine H_take (i := 3) (v := ?_) rfl (by as_aux_lemma => kernel_rfl) (by as_aux_lemma => kernel_rfl) (by as_aux_lemma => kernel_rfl) (fun _ _ _ h => h) (by rfl) hS ?_ ?_
          rotate_left
          · intro w' hw'; go_simp; with_reducible rfl
          go_simp
          refine H_take (i := 4) (v := ?_) rfl (by as_aux_lemma => kernel_rfl) (by as_aux_lemma => kernel_rfl) (by as_aux_lemma => kernel_rfl) (fun _ _ _ h => h) (by rfl) hS ?_ ?_
          rotate_left
          · intro w' hw'; go_simp; with_reducible rfl
          go_simp
          refine H_take (i := 5) (v := ?_) rfl (by as_aux_lemma => kernel_rfl) (by as_aux_lemma => kernel_rfl) (by as_aux_lemma => kernel_rfl) (fun _ _ _ h => h) (by rfl) hS ?_ ?_
          rotate_left
          · intro w' hw'; go_simp; with_reducible rfl
          go_simp
          refine H_take (i := 6) (v := ?_) rfl (by as_aux_lemma => kernel_rfl) (by as_aux_lemma => kernel_rfl) (by as_aux_lemma => kernel_rfl) (fun _ _ _ h => h) (by rfl) hS ?_ ?_
          rotate_left
          · intro w' hw'; go_simp; with_reducible rfl
          go_simp
          refine H_take (i := 7) (v := ?_) rfl (by as_aux_lemma => kernel_rfl) (by as_aux_lemma => kernel_rfl) (by as_aux_lemma => kernel_rfl) (fun _ _ _ h => h) (by rfl) hS ?_ ?_
          rotate_left
          · intro w' hw'; go_simp; with_reducible rfl
          go_simp
          refine H_take (i := 8) (v := ?_) rfl (by as_aux_lemma => kernel_rfl) (by as_aux_lemma => kernel_rfl) (by as_aux_lemma => kernel_rfl) (fun _ _ _ h => h) (by rfl) hS ?_ ?_
          rotate_left
          · intro w' hw'; go_simp; with_reducible rfl
          go_simp
          refine H_take (i := 9) (v := ?_) rfl (by as_aux_lemma => kernel_rfl) (by as_aux_lemma => kernel_rfl) (by as_aux_lemma => kernel_rfl) (fun _ _ _ h => h) (by rfl) hS ?_ ?_
          rotate_left
          · intro w' hw'; go_simp; with_reducible rfl
          go_simp
          refine H_one (i := 10) (by as_aux_lemma => kernel_rfl) rfl (by rfl) ?_
          go_simp
          have hwa := write_any d X gd onm (nc + 1) t v w W5.drew (HH5.out.ds.next (Below.refl _ _).drew) HON.out (by omega) (by have := HTP.out; omega) (by have := HTP.out; omega) HU.out hT
          rw [← HE.out, show ((nc + 1 : Nat) : Int) = (nc : Int) + 1 by simp] at hwa
          have hwrap : IntKind.i64.wrap ((nc : Int) + 1) = (nc : Int) + 1 := IntWalk.i64_in _ (by omega)
          rw [hwrap]
          refine hwa.mono ?_
          clear hwa hwrap
          rintro e w6 ⟨rfl, ho6, X6, hx6, h6⟩
          have hS6 : Only X W5 w6 := ⟨ho6.os, ho6.tape, ho6.output, ho6.size, ho6.block⟩
          refine ⟨hS6, ?_⟩
          obtain ⟨r, hr⟩ : ∃ r, r = save d (et, ev) ((t : Int), (v : Int) - 1) := ⟨_, rfl⟩
          rw [← hr] at h6 ⊢
          have HR := Lib.hid hr
          clear hr
          obtain ⟨r1, r2'⟩ := r
          have HO6 := Lib.hid hS6
          have HD6 := Lib.hid h6
          have HX6 : Hid (∀ k, X6 k → X k ∨ W5.heap.size ≤ k) := Lib.hid hx6
          clear h6 hx6 ho6
          simp only
          refine H_take (i := 11) (v := ?_) rfl (by as_aux_lemma => kernel_rfl) (by as_aux_lemma => kernel_rfl) (by as_aux_lemma => kernel_rfl) (fun _ _ _ h => h) (by rfl) hS6 ?_ ?_
          rotate_left
          · intro w' hw'; go_simp; with_reducible rfl
          go_simp
          refine wpAnyH_done (by as_aux_lemma => kernel_rfl) ?_ _
          have hg5 : gh < W5.heap.size := lt_of_heap HH5.out.blk
          have hr5 : wr.heap.size < W5.heap.size := lt_of_heap HX5.out
          have hX6g : ¬ X6 gh := fun h => by
            rcases HX6.out gh h with h | h
            · exact HH.out.out h
            · omega
          have HXX : Hid (∀ k, X6 k → X k ∨ wr.heap.size ≤ k) := Lib.hid fun k hk => by
            rcases HX6.out k hk with h | h
            · exact .inl h
            · exact .inr (by omega)
          have hbk6 : w6.heap[gh]? = some (.cells #[.int .i64 et, .int .i64 ev, .pointer (some ⟨gd, 0, none⟩)] 43) := (HO6.out.block gh hg5 HH.out.out).trans HH5.out.blk
          have hbx6 : w6.heap[wr.heap.size]? = some (.cells #[.int .i64 (t : Int), .int .i64 ((v : Int) - 1)] 23) := (HO6.out.block _ hr5 hXk).trans HX5.out
          have HK6 := Lib.hid hbk6
          clear q0 q1 r2 p0 hS hS6 kz bz nz hXk hXn hXg hg5 hr5
          by_cases hr0 : r1 = 0
          · subst hr0
            obtain ⟨k0, k1, -, -, kz⟩ := block2 hbx6
            obtain ⟨b0, b1, b2, bf0, bf1, bf2, bz⟩ := block3 hbk6
            clear hbk6 hbx6
            have HX6G := Lib.hid hX6g
            clear hX6g
            go_wp2_with fail
            go_ret
            refine sPost_of (has' := ((t : Int), (v : Int) - 1)) HR.out.symm (by rw [if_pos rfl]) HXX.out ⟨(HD6.out.set HH.out.new HX6G.out).set HH.out.new HX6G.out, ?_, HX6G.out, HH.out.new⟩ ?_
            · exact heap_set2 HK6.out
            · exact (((Only.of_below HB5.out).thn (fun k hk => .inl hk) HO6.out).mono (fun k hk => .inl hk)).set (.inl (.inr rfl)) _ |>.set (.inl (.inr rfl)) _
          · have q1 : (r1 != 0) = true := by simpa using hr0
            have HR0 := Lib.hid hr0
            clear hr0 hbk6 hbx6
            have HX6G := Lib.hid hX6g
            clear hX6g
            go_wp2_with fail
            go_ret
            exact sPost_of (has' := (et, ev)) HR.out.symm (by rw [if_neg HR0.out]) HXX.out ⟨HD6.out, HK6.out, HX6G.out, HH.out.new⟩ (((Only.of_below HB5.out).thn (fun k hk => .inl hk) HO6.out).mono (fun k hk => .inl hk))
end Go.Proofs.YtikcdchmggdmdaaDoor.M

/- The document's Is. -/
import Derived.Test.YtafodaoehnggfaaRefRows
import Derived.Test.YtafodaoehnggfaaRefCopy
namespace Go.Proofs.Ytafodaoehnggfaa.M
open Go.RowKit

def IsSaid (n : Nat) : Prop := ∀ (s : ByteArray) (e : Nat) (sh : Sh) (d : V) (F : Nat → Prop) (v : Value) (w : World), s.size ≤ n → s.size ≤ 64 → Exact e s.data.toList sh → e ≤ 9 → RepV w F d v → (∀ b, F b → b < w.heap.size) →
  Calls Try.prog 15 #[.string s, v] w fun r w' => r = .returned (.bool (isV sh d)) ∧ Below w.heap.size w w'

/-- A shape's text, its first byte tested as the walk writes its tests. -/
theorem first_byte {e : Nat} {s : ByteArray} {sh : Sh} (h : Exact e s.data.toList sh) : ∃ h0 : 0 < s.size, (s[0].toNat : Int) = kind sh := by
  obtain ⟨c, t', hc, hl⟩ := h.leaf
  have hsz : s.data.toList.length = s.size := by simp
  have h0 : 0 < s.size := by rw [← hsz, hc]; simp
  refine ⟨h0, ?_⟩
  have hget : s[0] = c := by
    have := drop_cons s 0 h0
    rw [List.drop_zero, hc] at this
    exact (List.cons.inj this).1.symm
  rw [hget]
  cases sh with
  | num => rw [hl.1]; rfl
  | blob => rw [hl.1]; rfl
  | list s => rw [show c = 42 from hl]; rfl
  | row l => rw [show c = 91 from hl]; rfl

/-- What stands behind a list's star. -/
theorem behind_star {e : Nat} {s : ByteArray} {sh : Sh} (h : Exact e s.data.toList (.list sh)) : ∃ e', e = e' + 1 ∧ Exact e' (s.extract 1 s.size).data.toList sh ∧ (s.extract 1 s.size).size + 1 = s.size := by
  obtain ⟨e', t', he, ht, hx⟩ := h.star
  have hsz : s.data.toList.length = s.size := by simp
  refine ⟨e', he, ?_, ?_⟩
  · have : (s.extract 1 s.size).data.toList = t' := by
      rw [ByteArray.data_extract, Array.toList_extract, List.extract_eq_take_drop, ht, List.drop_succ_cons, List.drop_zero, List.take_of_length_le]
      have := congrArg List.length ht
      simp only [List.length_cons] at this
      omega
    rw [this]; exact hx
  · rw [ByteArray.size_extract]
    have := congrArg List.length ht
    simp only [List.length_cons] at this
    omega

theorem all_take {p : V → Bool} : ∀ (l : List V) (k : Nat) (h : k < l.length), (l.take k).all p = true → p l[k] = true → (l.take (k + 1)).all p = true
  | v :: l, 0, _, _, h => by simpa using h
  | v :: l, k + 1, hk, h, h2 => by
    simp only [List.take_succ_cons, List.all_cons, Bool.and_eq_true] at h ⊢
    exact ⟨h.1, all_take l k (by simpa using hk) h.2 (by simpa using h2)⟩

theorem all_not {p : V → Bool} (l : List V) (k : Nat) (h : k < l.length) (hp : p l[k] = false) : l.all p = false := by
  rw [Bool.eq_false_iff]
  intro h2
  have := List.all_eq_true.1 h2 l[k] (List.getElem_mem h)
  rw [hp] at this; cases this

def BoxAt (w : World) (o : Obj) (wr : World) : Prop := Below w.heap.size w wr ∧ wr.heap[w.heap.size]? = some o

set_option maxHeartbeats 3200000 in
theorem is_list {n : Nat} (ih : ∀ m, m < n → IsSaid m) (s : ByteArray) (e : Nat) (sh : Sh) (d : V) (F : Nat → Prop) (v : Value) (w : World) (hn : s.size ≤ n) (hs : s.size ≤ 64) (hx : Exact e s.data.toList (.list sh)) (he : e ≤ 9) (hv : RepV w F d v)
    (hF : ∀ b, F b → b < w.heap.size) : Calls Try.prog 15 #[.string s, v] w fun r w' => r = .returned (.bool (isV (.list sh) d)) ∧ Below w.heap.size w w' := by
  obtain ⟨h0, hb0⟩ := first_byte hx
  obtain ⟨e', rfl, hx', hsz'⟩ := behind_star hx
  have HSUB : Hid (∀ (x : V) (u : Value) (w : World), RepV w F x u → (∀ b, F b → b < w.heap.size) → Calls Try.prog 15 #[.string (s.extract 1 s.size), u] w fun r w' => r = .returned (.bool (isV sh x)) ∧ Below w.heap.size w w') :=
    Lib.hid (fun x u w h1 h2 => ih (s.extract 1 s.size).size (by omega) _ e' sh x F u w (Nat.le_refl _) (by omega) hx' (by omega) h1 h2)
  obtain ⟨m, b, l⟩ := d
  obtain ⟨vb, vl, rfl, hm, hb, hvl⟩ := RepV_mk.1 hv
  obtain ⟨ba, bc, rfl, -⟩ := hb.slice
  obtain ⟨la, lc, rfl, hlen⟩ := hvl.slice
  have HV := Lib.hid hvl
  have HF := Lib.hid hF
  have h42 : ((s[0].toNat : Int) == 42) = true := by rw [hb0]; rfl
  have h1s : (1 : Int) ≤ (s.size : Int) := by omega
  clear hv hb hvl hF hx hx' hsz' ih hb0
  go_enter Try.func15, Try.ntmps15
  go_wp2_with fail
  go_loopw [5] (fun i wr => ∃ k : Nat, i = .int .i64 (k : Int) ∧ k ≤ l.length ∧ BoxAt w (.cells #[.int .u64 (m : Int), .slice ba b.length bc, .slice la l.length lc] 31) wr ∧ (l.take k).all (isV sh) = true) (fun i _ => l.length - (intOf i).toNat)
  case atStart => exact ⟨0, rfl, Nat.zero_le _, ⟨below_alloc _ _, heap_new _ _ _ rfl⟩, rfl⟩
  case round =>
    obtain ⟨k, rfl, hk, ⟨hB, hbx⟩, hall⟩ := hrel
    obtain ⟨c0, c1, c2, -, -, -, hz1⟩ := block3 hbx
    have HBX := Lib.hid hbx
    have HB := Lib.hid hB
    have HALL := Lib.hid hall
    clear hbx hB hall
    by_cases hk2 : k < l.length
    · have hkk : (k : Int) < (l.length : Int) := by omega
      obtain ⟨eb, eoff, ea, hFe, u, hat, hu⟩ := HV.out.elem k hk2
      subst ea
      obtain ⟨x0, x1, x2, rfl, e0, e1, e2⟩ := hat.same (w' := wr) (HB.out.block eb (HF.out eb hFe))
      have heb : eb < wr.heap.size := Nat.lt_of_lt_of_le (HF.out eb hFe) HB.out.size
      have HE := Lib.hid hu
      clear hat hu
      go_wp2_with fail
      refine wp_region_held (S := fun w' => Below wr.heap.size wr w') (by kernel_rfl) ?_
      have hS : Below wr.heap.size wr wr.drew := (Below.refl _ _).drew
      have q1 : ∀ w', Below wr.heap.size wr w' → w'.cell? ⟨w.heap.size, 2, none⟩ = some (.slice (some ⟨eb, eoff, none⟩) l.length lc) := fun w' hw' => (hw'.cell (p := ⟨w.heap.size, 2, none⟩) hz1).trans c2
      have r0 : ∀ w', Below wr.heap.size wr w' → w'.cell? ⟨eb, eoff + k * 3, none⟩ = some x0 := fun w' hw' => (hw'.cell (p := ⟨eb, eoff + k * 3, none⟩) heb).trans e0
      have r1 : ∀ w', Below wr.heap.size wr w' → w'.cell? ⟨eb, eoff + k * 3 + 1, none⟩ = some x1 := fun w' hw' => (hw'.cell (p := ⟨eb, eoff + k * 3 + 1, none⟩) heb).trans e1
      have r2 : ∀ w', Below wr.heap.size wr w' → w'.cell? ⟨eb, eoff + k * 3 + 2, none⟩ = some x2 := fun w' hw' => (hw'.cell (p := ⟨eb, eoff + k * 3 + 2, none⟩) heb).trans e2
      clear e0 e1 e2 c0 c1 c2
      refine H_take (i := 0) (v := ?_) rfl (by as_aux_lemma => kernel_rfl) (by as_aux_lemma => kernel_rfl) (by as_aux_lemma => kernel_rfl) (fun _ _ _ h => h) (by rfl) hS ?_ ?_
      rotate_left
      · intro w' hw'; go_simp; with_reducible rfl
      go_simp
      refine H_take (i := 1) (v := ?_) rfl (by as_aux_lemma => kernel_rfl) (by as_aux_lemma => kernel_rfl) (by as_aux_lemma => kernel_rfl) (fun _ _ _ h => h) (by rfl) hS ?_ ?_
      rotate_left
      · intro w' hw'; go_simp; with_reducible rfl
      go_simp
      refine H_take (i := 2) (v := ?_) rfl (by as_aux_lemma => kernel_rfl) (by as_aux_lemma => kernel_rfl) (by as_aux_lemma => kernel_rfl) (fun _ _ _ h => h) (by rfl) hS ?_ ?_
      rotate_left
      · intro w' hw'; go_simp; with_reducible rfl
      go_simp
      refine H_take (i := 3) (v := ?_) rfl (by as_aux_lemma => kernel_rfl) (by as_aux_lemma => kernel_rfl) (by as_aux_lemma => kernel_rfl) (fun _ _ _ h => h) (by rfl) hS ?_ ?_
      rotate_left
      · intro w' hw'; go_simp; with_reducible rfl
      go_simp
      refine H_take (i := 4) (v := ?_) rfl (by as_aux_lemma => kernel_rfl) (by as_aux_lemma => kernel_rfl) (by as_aux_lemma => kernel_rfl) (fun _ _ _ h => h) (by rfl) hS ?_ ?_
      rotate_left
      · intro w' hw'; go_simp; with_reducible rfl
      go_simp
      refine H_take (i := 5) (v := ?_) rfl (by as_aux_lemma => kernel_rfl) (by as_aux_lemma => kernel_rfl) (by as_aux_lemma => kernel_rfl) (fun _ _ _ h => h) (by rfl) hS ?_ ?_
      rotate_left
      · intro w' hw'; go_simp; with_reducible rfl
      go_simp
      refine H_take (i := 6) (v := ?_) rfl (by as_aux_lemma => kernel_rfl) (by as_aux_lemma => kernel_rfl) (by as_aux_lemma => kernel_rfl) (fun _ _ _ h => h) (by rfl) hS ?_ ?_
      rotate_left
      · intro w' hw'; go_simp; with_reducible rfl
      go_simp
      refine H_one (i := 7) (by as_aux_lemma => kernel_rfl) rfl (by rfl) ?_
      go_simp
      refine (HSUB.out l[k] _ wr.drew (HE.out.same (w' := wr.drew) (fun _ h => h) fun b hb => HB.out.block b (HF.out b hb)) (fun b hb => Nat.lt_of_lt_of_le (HF.out b hb) HB.out.size)).mono ?_
      rintro r w1 ⟨rfl, hB1⟩
      have hS1 : Below wr.heap.size wr w1 := hS.trans hB1
      refine ⟨hS1, ?_⟩
      go_simp
      refine H_take (i := 8) (v := ?_) rfl (by as_aux_lemma => kernel_rfl) (by as_aux_lemma => kernel_rfl) (by as_aux_lemma => kernel_rfl) (fun _ _ _ h => h) (by rfl) hS1 ?_ ?_
      rotate_left
      · intro w' hw'; go_simp; with_reducible rfl
      go_simp
      refine wpAnyH_done (by as_aux_lemma => kernel_rfl) ?_ _
      have HS1 := Lib.hid hS1
      clear q1 r0 r1 r2 hS hB1 hS1
      cases hv2 : isV sh l[k] with
      | true =>
        have HV2 := Lib.hid hv2
        clear hv2
        go_wp2_with fail
        go_roundw
        case rel => exact ⟨k + 1, by go_num, by omega, ⟨HB.out.trans (HS1.out.mono HB.out.size), (HS1.out.block _ hz1).trans HBX.out⟩, all_take l k hk2 HALL.out HV2.out⟩
        case measure => simp [intOf]; omega
      | false =>
        have HV2 := Lib.hid hv2
        clear hv2
        go_wp2_with fail
        go_ret
        refine ⟨?_, HB.out.trans (HS1.out.mono HB.out.size)⟩
        rw [isV, V.l, all_not l k hk2 HV2.out]
        rfl
    · have hkk : ¬ (k : Int) < (l.length : Int) := by omega
      go_wp2_with fail
      go_ret
      refine ⟨?_, HB.out⟩
      have := HALL.out
      rw [List.take_of_length_le (by omega)] at this
      rw [isV, V.l, this]
      rfl

theorem isVs_no : ∀ (l : List Sh) (vs : List V) (k : Nat) (h1 : k < l.length) (h2 : k < vs.length), isV l[k] vs[k] = false → isVs l vs = false := by
  intro l vs k h1 h2 h
  rw [Bool.eq_false_iff]
  intro h3
  have := isVs_get l vs k h1 h2 h3
  rw [h] at this; cases this

theorem isVs_len (l : List Sh) (vs : List V) (h : l.length ≠ vs.length) : isVs l vs = false := by
  rw [Bool.eq_false_iff]
  intro h3
  exact h (isVs_length l vs h3)

/-- A row's texts: each is shorter than the row's. -/
theorem row_texts {e : Nat} {s : ByteArray} {l : List Sh} (h : Exact e s.data.toList (.row l)) : ∃ e' ts, e = e' + 1 ∧ s.data.toList = 91 :: ts.flatten ++ [93] ∧ Fits e' ts l ∧ ts.length = l.length ∧ ts.length ≤ s.size ∧
    (∀ k (hk : k < ts.length) (hk2 : k < l.length), (strOf ts[k]).size < s.size ∧ Exact e' (strOf ts[k]).data.toList l[k]) := by
  obtain ⟨e', ts, he, ht, hf⟩ := h.parts
  have hsz : s.data.toList.length = s.size := by simp
  have hlen := congrArg List.length ht
  simp only [List.length_append, List.length_cons, List.length_nil] at hlen
  refine ⟨e', ts, he, ht, hf, hf.length.1, by have := hf.length.2; omega, fun k hk hk2 => ⟨?_, ?_⟩⟩
  · have := flatten_get ts k hk
    rw [strOf_size]; omega
  · have : (strOf ts[k]).data.toList = ts[k] := by simp [strOf]
    rw [this]; exact hf.get k hk hk2

set_option maxHeartbeats 3200000 in
theorem is_row {n : Nat} (ih : ∀ m, m < n → IsSaid m) (s : ByteArray) (e : Nat) (ls : List Sh) (d : V) (F : Nat → Prop) (v : Value) (w : World) (hn : s.size ≤ n) (hs : s.size ≤ 64) (hx : Exact e s.data.toList (.row ls)) (he : e ≤ 9) (hv : RepV w F d v)
    (hF : ∀ b, F b → b < w.heap.size) : Calls Try.prog 15 #[.string s, v] w fun r w' => r = .returned (.bool (isV (.row ls) d)) ∧ Below w.heap.size w w' := by
  obtain ⟨h0, hb0⟩ := first_byte hx
  obtain ⟨e', ts, rfl, ht, hf, htl, hts, hsub⟩ := row_texts hx
  have HSUB : Hid (∀ k (hk : k < ts.length) (hk2 : k < ls.length) (x : V) (u : Value) (w : World), RepV w F x u → (∀ b, F b → b < w.heap.size) → Calls Try.prog 15 #[.string (strOf ts[k]), u] w fun r w' => r = .returned (.bool (isV ls[k] x)) ∧ Below w.heap.size w w') :=
    Lib.hid (fun k hk hk2 x u w h1 h2 => ih (strOf ts[k]).size (by have := (hsub k hk hk2).1; omega) _ e' ls[k] x F u w (Nat.le_refl _) (by have := (hsub k hk hk2).1; omega) (hsub k hk hk2).2 (by omega) h1 h2)
  have HROWS := Lib.hid (fun w => rows_any s e' ts ls w hs ht hf (by omega))
  obtain ⟨m, b, l⟩ := d
  obtain ⟨vb, vl, rfl, hm, hb, hvl⟩ := RepV_mk.1 hv
  obtain ⟨ba, bc, rfl, -⟩ := hb.slice
  obtain ⟨la, lc, rfl, hlen⟩ := hvl.slice
  have HV := Lib.hid hvl
  have HF := Lib.hid hF
  have HTL := Lib.hid htl
  have h42 : ((s[0].toNat : Int) == 42) = false := by rw [hb0]; rfl
  have h91 : ((s[0].toNat : Int) == 91) = true := by rw [hb0]; rfl
  clear hv hb hvl hF hx ht hf htl hsub ih hb0
  go_enter Try.func15, Try.ntmps15
  go_wp2_with fail
  refine (HROWS.out _).mono ?_
  rintro r w1 ⟨rv, rfl, hB1, hown⟩
  obtain ⟨ra, rc, rfl⟩ := owned_slice hown
  have HO := Lib.hid hown
  have hbx1 := old_below (heap_new w (.cells #[.int .u64 (m : Int), .slice ba b.length bc, .slice la l.length lc] 31) _ rfl) hB1
  have HB1 : Hid (Below w.heap.size w w1) := Lib.hid ((below_alloc _ _).trans (hB1.mono (by simp)))
  have HBX1 := Lib.hid hbx1
  obtain ⟨c0, c1, c2, -, -, -, hz1⟩ := block3 hbx1
  clear hown hB1 hbx1
  by_cases hll : ts.length = l.length
  · have hli : (ts.length : Int) = (l.length : Int) := by omega
    have hli2 : ((ts.length : Int) != (l.length : Int)) = false := by simp [hll]
    have HLL := Lib.hid hll
    clear hll hli
    go_wp2_with fail
    clear c0 c1 c2 hli2
    go_loopw [7] (fun i wr => ∃ k : Nat, i = .int .i64 (k : Int) ∧ k ≤ ts.length ∧ Below w1.heap.size w1 wr ∧ isVs (ls.take k) (l.take k) = true) (fun i _ => ts.length - (intOf i).toNat)
    case atStart => exact ⟨0, rfl, Nat.zero_le _, Below.refl _ _, rfl⟩
    case round =>
      obtain ⟨k, rfl, hk, hB, hall⟩ := hrel
      have HB := Lib.hid hB
      have HALL := Lib.hid hall
      clear hB hall
      by_cases hk2 : k < ts.length
      · have hkk : (k : Int) < (ts.length : Int) := by omega
        have hkl : k < l.length := by rw [← HLL.out]; exact hk2
        have hkls : k < ls.length := by rw [← HTL.out]; exact hk2
        have hkk2 : (k : Int) < (l.length : Int) := by omega
        obtain ⟨eb, eoff, ea, hFe, u, hat, hu⟩ := HV.out.elem k hkl
        subst ea
        have heb0 := HF.out eb hFe
        obtain ⟨x0, x1, x2, rfl, e0, e1, e2⟩ := hat.same (w' := wr) ((HB.out.block eb (Nat.lt_of_lt_of_le heb0 HB1.out.size)).trans (HB1.out.block eb heb0))
        have heb : eb < wr.heap.size := Nat.lt_of_lt_of_le heb0 (Nat.le_trans HB1.out.size HB.out.size)
        have HE := Lib.hid hu
        obtain ⟨gb, gc, hgv, hgb1, hgb2, hgcell⟩ := owned_str HO.out rfl k hk2
        cases hgv
        have c2 : wr.cell? ⟨w.heap.size, 2, none⟩ = some (.slice (some ⟨eb, eoff, none⟩) l.length lc) := by
          obtain ⟨_, _, c2, _⟩ := block3 ((HB.out.block _ hz1).trans HBX1.out)
          exact c2
        have g0 : wr.cell? ⟨gb, 0 + k, none⟩ = some (.string (strOf ts[k])) := (HB.out.cell (p := ⟨gb, 0 + k, none⟩) hgb2).trans hgcell
        rw [Nat.zero_add] at g0
        have hgb3 : gb < wr.heap.size := Nat.lt_of_lt_of_le hgb2 HB.out.size
        have hz2 : w.heap.size < wr.heap.size := Nat.lt_of_lt_of_le hz1 HB.out.size
        clear hat hu hgcell
        go_wp2_with fail
        refine wp_region_held (S := fun w' => Below wr.heap.size wr w') (by kernel_rfl) ?_
        have hS : Below wr.heap.size wr wr.drew := (Below.refl _ _).drew
        have q1 : ∀ w', Below wr.heap.size wr w' → w'.cell? ⟨w.heap.size, 2, none⟩ = some (.slice (some ⟨eb, eoff, none⟩) l.length lc) := fun w' hw' => (hw'.cell (p := ⟨w.heap.size, 2, none⟩) hz2).trans c2
        have q2 : ∀ w', Below wr.heap.size wr w' → w'.cell? ⟨gb, k, none⟩ = some (.string (strOf ts[k])) := fun w' hw' => (hw'.cell (p := ⟨gb, k, none⟩) hgb3).trans g0
        have r0 : ∀ w', Below wr.heap.size wr w' → w'.cell? ⟨eb, eoff + k * 3, none⟩ = some x0 := fun w' hw' => (hw'.cell (p := ⟨eb, eoff + k * 3, none⟩) heb).trans e0
        have r1 : ∀ w', Below wr.heap.size wr w' → w'.cell? ⟨eb, eoff + k * 3 + 1, none⟩ = some x1 := fun w' hw' => (hw'.cell (p := ⟨eb, eoff + k * 3 + 1, none⟩) heb).trans e1
        have r2 : ∀ w', Below wr.heap.size wr w' → w'.cell? ⟨eb, eoff + k * 3 + 2, none⟩ = some x2 := fun w' hw' => (hw'.cell (p := ⟨eb, eoff + k * 3 + 2, none⟩) heb).trans e2
        clear e0 e1 e2 c2 g0
        refine H_take (i := 0) (v := ?_) rfl (by as_aux_lemma => kernel_rfl) (by as_aux_lemma => kernel_rfl) (by as_aux_lemma => kernel_rfl) (fun _ _ _ h => h) (by rfl) hS ?_ ?_
        rotate_left
        · intro w' hw'; go_simp; with_reducible rfl
        go_simp
        refine H_take (i := 1) (v := ?_) rfl (by as_aux_lemma => kernel_rfl) (by as_aux_lemma => kernel_rfl) (by as_aux_lemma => kernel_rfl) (fun _ _ _ h => h) (by rfl) hS ?_ ?_
        rotate_left
        · intro w' hw'; go_simp; with_reducible rfl
        go_simp
        refine H_take (i := 2) (v := ?_) rfl (by as_aux_lemma => kernel_rfl) (by as_aux_lemma => kernel_rfl) (by as_aux_lemma => kernel_rfl) (fun _ _ _ h => h) (by rfl) hS ?_ ?_
        rotate_left
        · intro w' hw'; go_simp; with_reducible rfl
        go_simp
        refine H_take (i := 3) (v := ?_) rfl (by as_aux_lemma => kernel_rfl) (by as_aux_lemma => kernel_rfl) (by as_aux_lemma => kernel_rfl) (fun _ _ _ h => h) (by rfl) hS ?_ ?_
        rotate_left
        · intro w' hw'; go_simp; with_reducible rfl
        go_simp
        refine H_take (i := 4) (v := ?_) rfl (by as_aux_lemma => kernel_rfl) (by as_aux_lemma => kernel_rfl) (by as_aux_lemma => kernel_rfl) (fun _ _ _ h => h) (by rfl) hS ?_ ?_
        rotate_left
        · intro w' hw'; go_simp; with_reducible rfl
        go_simp
        refine H_take (i := 5) (v := ?_) rfl (by as_aux_lemma => kernel_rfl) (by as_aux_lemma => kernel_rfl) (by as_aux_lemma => kernel_rfl) (fun _ _ _ h => h) (by rfl) hS ?_ ?_
        rotate_left
        · intro w' hw'; go_simp; with_reducible rfl
        go_simp
        refine H_take (i := 6) (v := ?_) rfl (by as_aux_lemma => kernel_rfl) (by as_aux_lemma => kernel_rfl) (by as_aux_lemma => kernel_rfl) (fun _ _ _ h => h) (by rfl) hS ?_ ?_
        rotate_left
        · intro w' hw'; go_simp; with_reducible rfl
        go_simp
        refine H_take (i := 7) (v := ?_) rfl (by as_aux_lemma => kernel_rfl) (by as_aux_lemma => kernel_rfl) (by as_aux_lemma => kernel_rfl) (fun _ _ _ h => h) (by rfl) hS ?_ ?_
        rotate_left
        · intro w' hw'; go_simp; with_reducible rfl
        go_simp
        refine H_take (i := 8) (v := ?_) rfl (by as_aux_lemma => kernel_rfl) (by as_aux_lemma => kernel_rfl) (by as_aux_lemma => kernel_rfl) (fun _ _ _ h => h) (by rfl) hS ?_ ?_
        rotate_left
        · intro w' hw'; go_simp; with_reducible rfl
        go_simp
        refine H_one (i := 9) (by as_aux_lemma => kernel_rfl) rfl (by rfl) ?_
        go_simp
        refine (HSUB.out k hk2 hkls l[k] _ wr.drew (HE.out.same (w' := wr.drew) (fun _ h => h) fun b hb => (HB.out.block b (Nat.lt_of_lt_of_le (HF.out b hb) HB1.out.size)).trans (HB1.out.block b (HF.out b hb))) (fun b hb => Nat.lt_of_lt_of_le (HF.out b hb) (Nat.le_trans HB1.out.size HB.out.size))).mono ?_
        rintro r w2 ⟨rfl, hB2⟩
        have hS1 : Below wr.heap.size wr w2 := hS.trans hB2
        refine ⟨hS1, ?_⟩
        go_simp
        refine H_take (i := 10) (v := ?_) rfl (by as_aux_lemma => kernel_rfl) (by as_aux_lemma => kernel_rfl) (by as_aux_lemma => kernel_rfl) (fun _ _ _ h => h) (by rfl) hS1 ?_ ?_
        rotate_left
        · intro w' hw'; go_simp; with_reducible rfl
        go_simp
        refine wpAnyH_done (by as_aux_lemma => kernel_rfl) ?_ _
        have HS1 := Lib.hid hS1
        clear q1 q2 r0 r1 r2 hS hB2 hS1
        cases hv2 : isV ls[k] l[k] with
        | true =>
          have HV2 := Lib.hid hv2
          clear hv2
          go_wp2_with fail
          go_roundw
          case rel => exact ⟨k + 1, by go_num, by omega, HB.out.trans (HS1.out.mono HB.out.size), isVs_step ls l k hkls hkl HALL.out HV2.out⟩
          case measure => simp [intOf]; omega
        | false =>
          have HV2 := Lib.hid hv2
          clear hv2
          go_wp2_with fail
          go_ret
          refine ⟨?_, HB1.out.trans ((HB.out.trans (HS1.out.mono HB.out.size)).mono HB1.out.size)⟩
          rw [isV, V.l, isVs_no ls l k hkls hkl HV2.out]
          rfl
      · have hkk : ¬ (k : Int) < (ts.length : Int) := by omega
        go_wp2_with fail
        go_ret
        refine ⟨?_, HB1.out.trans (HB.out.mono HB1.out.size)⟩
        have := HALL.out
        rw [List.take_of_length_le (by rw [← HTL.out]; omega), List.take_of_length_le (by rw [← HLL.out]; omega)] at this
        rw [isV, V.l, this]
        rfl
  · have hli2 : ((ts.length : Int) != (l.length : Int)) = true := by simp; omega
    have HLL := Lib.hid hll
    clear hll
    go_wp2_with fail
    go_ret
    refine ⟨?_, HB1.out⟩
    rw [isV, V.l, isVs_len ls l (by rw [← HTL.out]; exact HLL.out)]
    rfl

theorem is_of {n : Nat} (ih : ∀ m, m < n → IsSaid m) : IsSaid n := by
  intro s e sh d F v w hn hs hx he hv hF
  cases sh with
  | list sh => exact is_list ih s e sh d F v w hn hs hx he hv hF
  | row ls => exact is_row ih s e ls d F v w hn hs hx he hv hF
  | num =>
    obtain ⟨h0, hb0⟩ := first_byte hx
    have h42 : ((s[0].toNat : Int) == 42) = false := by rw [hb0]; rfl
    have h91 : ((s[0].toNat : Int) == 91) = false := by rw [hb0]; rfl
    obtain ⟨m, ab, nb, cb, al, nl, cl, rfl⟩ := hv.form
    clear hx hv hF ih hb0
    go_enter Try.func15, Try.ntmps15
    go_wp2_with fail
    go_ret
    exact ⟨by rw [isV]; rfl, below_alloc _ _⟩
  | blob =>
    obtain ⟨h0, hb0⟩ := first_byte hx
    have h42 : ((s[0].toNat : Int) == 42) = false := by rw [hb0]; rfl
    have h91 : ((s[0].toNat : Int) == 91) = false := by rw [hb0]; rfl
    obtain ⟨m, ab, nb, cb, al, nl, cl, rfl⟩ := hv.form
    clear hx hv hF ih hb0
    go_enter Try.func15, Try.ntmps15
    go_wp2_with fail
    go_ret
    exact ⟨by rw [isV]; rfl, below_alloc _ _⟩

theorem Is_sized : ∀ (n : Nat), IsSaid n := fun n => Nat.strongRecOn n fun _ ih => is_of ih

theorem RefIs_any {s : ByteArray} {sh : Sh} (h : shape s.data.toList = some sh) (d : V) (F : Nat → Prop) (v : Value) (w : World) (hv : RepV w F d v) (hF : ∀ b, F b → b < w.heap.size) :
    Calls Try.prog 15 #[.string s, v] w fun r w' => r = .returned (.bool (isV sh d)) ∧ Below w.heap.size w w' := by
  obtain ⟨h1, h2⟩ := exact_shape h
  exact Is_sized s.size s 9 sh d F v w (Nat.le_refl _) (by simpa using h2) h1 (by omega) hv hF
end Go.Proofs.Ytafodaoehnggfaa.M

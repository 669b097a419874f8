/- Package segment: CutFrom, where the last segment left is cut. Package segment: DropTo. The document's examples of a log in segments, as plain lists. The law package's examples of a log in segments. The document: a segment of a log, its name. -/
import Derived.Test.YtamgjlegcegmeaaGreatDoorSD39
/- Part: SegCt2. -/
namespace Go.Proofs.YtamgjlegcegmeaaGreatDoor.M
open Go.RowKit Go.Maps
open D (Fl Dk)

set_option maxRecDepth 20000 in
set_option maxHeartbeats 6400000 in
theorem cutFrom_cut (K : Nat → Obj → Prop) (w wa : World) (X Xd : Nat → Prop) (g gd : Nat) (least : Int) (h : Hd) (d : Dk) (l : LS K w X Xd g gd least h d wa) (ho : HdOk h) (ix : Int) (hix : h.mi < ix ∧ ix ≤ h.last.1) (hsq : h.Seq) (hP : Hid (Pow10 w)) (h1 : Hd) (d1 : Dk) (hst : stripE (fromIx ix) h.files h.files.length h d = (0, h1, d1))
    (hmi : h1.mi = h.mi) (hrl : h1.rows.length ≤ 1000000) (hfl : h1.files.length ≤ 1000000) (n' : Nat) (f : Fi) (hn' : h1.files.length = n' + 1) (hfl1 : h1.files[n']? = some f) (hlast : ix ≤ f.last) (hfb : 0 ≤ f.first ∧ f.first < 10000000000) (po : Int) (hpo : (h.rows[(ix - h.mi - 1).toNat]?).map (·.pos) = some po) (hpz : -9223372036854775808 ≤ po ∧ po ≤ 9223372036854775807) (h2 : Hd) (d2 : Dk) (hct : cutE h1 d1 n' f po (ix - 1) = (0, h2, d2)) (hrl2 : h2.rows.length ≤ 1000000) (hmi2 : h2.mi = h.mi) :
    Calls Tryz.prog 15 #[.pointer (some ⟨g, 0, none⟩), .int .i64 ix] wa fun e w' => e = .returned (.int .i64 0) ∧ ∃ Xd', LS K w X Xd' g gd least (forgetE h2 ix) d2 w' := by
  have hli := last_in ho
  obtain ⟨W1, hW1⟩ : ∃ W1, W1 = wa.alloc (.cells #[.int .i64 ix] 3) := ⟨_, rfl⟩
  obtain ⟨bi, hbi⟩ : ∃ b, b = wa.heap.size := ⟨_, rfl⟩
  have hb1 : Below wa.heap.size wa W1 := by rw [hW1]; exact below_alloc _ _
  have hx1 : W1.heap[bi]? = some (.cells #[.int .i64 ix] 3) := by rw [hW1, hbi]; exact heap_new _ _ _ rfl
  have hnX : ¬ X bi ∧ ¬ Xd bi := by rw [hbi]; exact ⟨fun hx => Nat.lt_irrefl _ (l.lt hx), fun hx => Nat.lt_irrefl _ (l.ds.lt _ hx)⟩
  have hl1 := l.next hb1
  have HL0 := Lib.hid l
  have HL1 := Lib.hid hl1
  have HKB : Hid (W1.heap[bi]? = some (.cells #[.int .i64 ix] 3) ∧ ¬ X bi ∧ ¬ Xd bi) := Lib.hid ⟨hx1, hnX⟩
  have HPL : Hid (∀ W2, Below W1.heap.size W1 W2 → Calls Tryz.prog 34 #[.pointer (some ⟨g, 0, none⟩), .int .i64 ix] W2 fun e w' => e = .returned (.tuple #[.int .i64 (ix - h.mi - 1), .bool true]) ∧ Below W1.heap.size W1 w') := Lib.hid fun W2 hb2 => by
    have := (hl1.next hb2).lg.place_any ho ix
    rw [if_neg (by omega)] at this
    exact this.mono fun e w' hp => ⟨hp.1, hb2.trans (hp.2.mono hb2.size)⟩
  have HST : Hid (∀ W2, Below W1.heap.size W1 W2 → Calls Tryz.prog 38 #[.pointer (some ⟨g, 0, none⟩), .func (.func 39) #[] #[.pointer (some ⟨bi, 0, none⟩)]] W2 fun e w' => e = .returned (.int .i64 0) ∧ LS (fun k o => W1.heap[k]? = some o ∧ ¬ X k ∧ ¬ Xd k) w X Xd g gd least h1 d1 w') := Lib.hid fun W2 hb2 => by
    have := strip_ok _ w W2 X Xd g gd least h d (hl1.keep.next hb2) (fromIx ix) 39 #[.pointer (some ⟨bi, 0, none⟩)] (enters_of Tryz.func39 (by kernel_rfl) rfl)
      (fun f hf W hk => cutFrom1_any f ix bi W (hk _ _ ⟨hx1, hnX⟩)) ho.rl ho.fl ho.m.1 (fun f hf => (ho.fb f hf).1) hP (by rw [hst])
    rw [hst] at this
    exact this
  have HFG : Hid (∀ W2 Xd2, LS (fun k o => W1.heap[k]? = some o ∧ ¬ X k ∧ ¬ Xd k) w X Xd2 g gd least h2 d2 W2 → Calls Tryz.prog 41 #[.pointer (some ⟨g, 0, none⟩), .int .i64 ix] W2 fun e w' => e = .returned (.tuple #[]) ∧ LS (fun k o => W1.heap[k]? = some o ∧ ¬ X k ∧ ¬ Xd k) w X Xd2 g gd least (forgetE h2 ix) d2 w') := Lib.hid fun W2 Xd2 hl2 =>
    (forget_any _ w W2 X Xd2 g gd least h2 d2 hl2 hrl2 (by rw [hmi2]; exact ho.m.1) ix (by have := ho.m.1; omega)).mono fun e w' hp => ⟨hp.1, hp.2.1⟩
  have HCT : Hid (∀ W2, LS (fun k o => W1.heap[k]? = some o ∧ ¬ X k ∧ ¬ Xd k) w X Xd g gd least h1 d1 W2 → Calls Tryz.prog 40 #[.pointer (some ⟨g, 0, none⟩), .int .i64 (n' : Int), .int .i64 po, .int .i64 (ix - 1)] W2 fun e w' => e = .returned (.int .i64 0) ∧ ∃ Xd2, LS (fun k o => W1.heap[k]? = some o ∧ ¬ X k ∧ ¬ Xd k) w X Xd2 g gd least h2 d2 w') := Lib.hid fun W2 hl2 => by
    have := segCut_any _ w W2 X Xd g gd least h1 d1 hl2 n' f hfl1 hfl hfb po (ix - 1) hpz hP
    rw [hct] at this
    exact this
  have HFL := Lib.hid hfl
  obtain ⟨⟨vr, vf, rv, la⟩, lz⟩ := hl1.lg
  have hrv : rv.length = h.rows.length := by rw [← List.length_map (f := (·.1)), la.rows]
  have hpl : ((ix - h.mi - 1).toNat : Nat) < rv.length := by
    rw [hrv]
    have := hsq.last
    omega
  obtain ⟨pi, hpi⟩ : ∃ pi, pi = (ix - h.mi - 1).toNat := ⟨_, rfl⟩
  rw [← hpi] at hpl
  have hpe : ix - h.mi - 1 = (pi : Int) := by omega
  rw [hpe] at HPL
  obtain ⟨ga, rc, hvr, hgz, -, -, hcs, -⟩ := row5_elem (f := rwV) (fun _ => rfl) la.rrow pi hpl
  subst hvr
  have s4 := hcs 4 (by omega)
  simp only [rwV, List.getElem?_cons_zero, List.getElem?_cons_succ] at s4
  obtain ⟨c0, c1, c2, c3, c4, c5, c6, cz⟩ := seven_cells la.box
  obtain ⟨b0, bf, bz⟩ := block1 hx1
  have hpo2 : rv[pi].1.pos = po := by
    rw [← hpi, ← la.rows, List.getElem?_map, List.getElem?_eq_getElem hpl] at hpo
    simpa using hpo
  rw [hpo2] at s4
  have HPZ := Lib.hid hpz
  have HIX : Hid (0 ≤ ix ∧ ix ≤ 10000000000) := Lib.hid (by have := ho.m.1; omega)
  have HN' := Lib.hid hn'
  have HF1 := Lib.hid hfl1
  have HLT := Lib.hid hlast
  obtain ⟨nr, hnr⟩ : ∃ nr, nr = rv.length := ⟨_, rfl⟩
  rw [← hnr] at c2 hpl
  have keep : ∀ {q o : Nat} {v : Value}, q < W1.heap.size → W1.cell? ⟨q, o, none⟩ = some v → ∀ w', Below W1.heap.size W1 w' → w'.cell? ⟨q, o, none⟩ = some v := fun {q o v} hq hv w' hb => (World.cell?_of_block (a := ⟨q, o, none⟩) (hb.block q hq)).trans hv
  have r0 := keep bz b0
  have r1 := keep cz c0
  have HR := Lib.hid (And.intro (keep cz c2) (keep hgz s4))
  have hGZ := And.intro cz hgz
  have HGZ := Lib.hid hGZ
  have q0 : decide (ix ≤ h.mi) = false := decide_eq_false (by omega)
  have hp1 : (pi : Int) < (nr : Int) := by omega
  have HW1 := Lib.hid hW1
  have HBI := Lib.hid hbi
  obtain ⟨mi, hmi'⟩ : ∃ mi, mi = h.mi := ⟨_, rfl⟩
  rw [← hmi'] at r1 q0
  have hS : Below W1.heap.size W1 W1.drew := (Below.refl _ _).drew
  clear l hl1 la lz hb1 hx1 hnX hW1 hbi hst hmi hrl hfl hrv hpi hpe hcs hfl1 hlast hfb hct hrl2 hmi2 hn' hpz hpo2 c1 c2 c3 c4 c5 c6 s4 hpo hnr keep hGZ hmi' hli hix hsq hP bf
  go_enter Tryz.func15, Tryz.ntmps15
  go_wp2_with fail
  rw [← HW1.out]
  rw [← HBI.out]
  refine wp_region_held (S := fun w' => Below W1.heap.size W1 w') (by kernel_rfl) ?_
  refine H_take (i := 0) (v := ?_) rfl (by as_aux_lemma => kernel_rfl) (by as_aux_lemma => kernel_rfl) (by as_aux_lemma => kernel_rfl) (fun _ _ _ h => h) (by rfl) hS ?_ ?_
  rotate_left
  · intro w' hw'; go_simp; with_reducible rfl
  go_simp
  refine H_take (i := 1) (v := ?_) rfl (by as_aux_lemma => kernel_rfl) (by as_aux_lemma => kernel_rfl) (by as_aux_lemma => kernel_rfl) (fun _ _ _ h => h) (by rfl) hS ?_ ?_
  rotate_left
  · intro w' hw'; go_simp; with_reducible rfl
  go_simp
  refine H_take (i := 2) (v := ?_) rfl (by as_aux_lemma => kernel_rfl) (by as_aux_lemma => kernel_rfl) (by as_aux_lemma => kernel_rfl) (fun _ _ _ h => h) (by rfl) hS ?_ ?_
  rotate_left
  · intro w' hw'; go_simp; with_reducible rfl
  go_simp
  refine H_take (i := 3) (v := ?_) rfl (by as_aux_lemma => kernel_rfl) (by as_aux_lemma => kernel_rfl) (by as_aux_lemma => kernel_rfl) (fun _ _ _ h => h) (by rfl) hS ?_ ?_
  rotate_left
  · intro w' hw'; go_simp; with_reducible rfl
  go_simp
  refine H_take (i := 4) (v := ?_) rfl (by as_aux_lemma => kernel_rfl) (by as_aux_lemma => kernel_rfl) (by as_aux_lemma => kernel_rfl) (fun _ _ _ h => h) (by rfl) hS ?_ ?_
  rotate_left
  · intro w' hw'; go_simp; with_reducible rfl
  go_simp
  refine H_take (i := 5) (v := ?_) rfl (by as_aux_lemma => kernel_rfl) (by as_aux_lemma => kernel_rfl) (by as_aux_lemma => kernel_rfl) (fun _ _ _ h => h) (by rfl) hS ?_ ?_
  rotate_left
  · intro w' hw'; go_simp; with_reducible rfl
  go_simp
  refine H_take (i := 6) (v := ?_) rfl (by as_aux_lemma => kernel_rfl) (by as_aux_lemma => kernel_rfl) (by as_aux_lemma => kernel_rfl) (fun _ _ _ h => h) (by rfl) hS ?_ ?_
  rotate_left
  · intro w' hw'; go_simp; with_reducible rfl
  go_simp
  refine H_take (i := 7) (v := ?_) rfl (by as_aux_lemma => kernel_rfl) (by as_aux_lemma => kernel_rfl) (by as_aux_lemma => kernel_rfl) (fun _ _ _ h => h) (by rfl) hS ?_ ?_
  rotate_left
  · intro w' hw'; go_simp; with_reducible rfl
  go_simp
  refine wpAnyH_done (by as_aux_lemma => kernel_rfl) ?_ _
  clear hS
  go_wp2_with fail
  have hS : Below W1.heap.size W1 W1.drew.drew := (Below.refl _ _).drew.drew
  refine wp_region_held (S := fun w' => Below W1.heap.size W1 w') (by kernel_rfl) ?_
  refine H_take (i := 0) (v := ?_) rfl (by as_aux_lemma => kernel_rfl) (by as_aux_lemma => kernel_rfl) (by as_aux_lemma => kernel_rfl) (fun _ _ _ h => h) (by rfl) hS ?_ ?_
  rotate_left
  · intro w' hw'; go_simp; with_reducible rfl
  go_simp
  refine H_take (i := 1) (v := ?_) rfl (by as_aux_lemma => kernel_rfl) (by as_aux_lemma => kernel_rfl) (by as_aux_lemma => kernel_rfl) (fun _ _ _ h => h) (by rfl) hS ?_ ?_
  rotate_left
  · intro w' hw'; go_simp; with_reducible rfl
  go_simp
  refine H_take (i := 2) (v := ?_) rfl (by as_aux_lemma => kernel_rfl) (by as_aux_lemma => kernel_rfl) (by as_aux_lemma => kernel_rfl) (fun _ _ _ h => h) (by rfl) hS ?_ ?_
  rotate_left
  · intro w' hw'; go_simp; with_reducible rfl
  go_simp
  refine H_take (i := 3) (v := ?_) rfl (by as_aux_lemma => kernel_rfl) (by as_aux_lemma => kernel_rfl) (by as_aux_lemma => kernel_rfl) (fun _ _ _ h => h) (by rfl) hS ?_ ?_
  rotate_left
  · intro w' hw'; go_simp; with_reducible rfl
  go_simp
  refine H_one (i := 4) (by as_aux_lemma => kernel_rfl) rfl (by rfl) ?_
  go_simp
  refine (HPL.out W1.drew.drew hS).mono ?_
  rintro e w2 ⟨rfl, hS2⟩
  refine ⟨hS2, ?_⟩
  go_simp
  refine H_take (i := 5) (v := ?_) rfl (by as_aux_lemma => kernel_rfl) (by as_aux_lemma => kernel_rfl) (by as_aux_lemma => kernel_rfl) (fun _ _ _ h => h) (by rfl) hS2 ?_ ?_
  rotate_left
  · intro w' hw'; go_simp; with_reducible rfl
  go_simp
  refine H_take (i := 6) (v := ?_) rfl (by as_aux_lemma => kernel_rfl) (by as_aux_lemma => kernel_rfl) (by as_aux_lemma => kernel_rfl) (fun _ _ _ h => h) (by rfl) hS2 ?_ ?_
  rotate_left
  · intro w' hw'; go_simp; with_reducible rfl
  go_simp
  refine H_take (i := 7) (v := ?_) rfl (by as_aux_lemma => kernel_rfl) (by as_aux_lemma => kernel_rfl) (by as_aux_lemma => kernel_rfl) (fun _ _ _ h => h) (by rfl) hS2 ?_ ?_
  rotate_left
  · intro w' hw'; go_simp; with_reducible rfl
  go_simp
  refine H_take (i := 8) (v := ?_) rfl (by as_aux_lemma => kernel_rfl) (by as_aux_lemma => kernel_rfl) (by as_aux_lemma => kernel_rfl) (fun _ _ _ h => h) (by rfl) hS2 ?_ ?_
  rotate_left
  · intro w' hw'; go_simp; with_reducible rfl
  go_simp
  refine H_take (i := 9) (v := ?_) rfl (by as_aux_lemma => kernel_rfl) (by as_aux_lemma => kernel_rfl) (by as_aux_lemma => kernel_rfl) (fun _ _ _ h => h) (by rfl) hS2 ?_ ?_
  rotate_left
  · intro w' hw'; go_simp; with_reducible rfl
  go_simp
  refine wpAnyH_done (by as_aux_lemma => kernel_rfl) ?_ _
  have c2 := HR.out.1 w2 hS2
  have s4 := HR.out.2 w2 hS2
  have cz := Nat.lt_of_lt_of_le HGZ.out.1 hS2.size
  have sz := Nat.lt_of_lt_of_le HGZ.out.2 hS2.size
  have HS2 := Lib.hid hS2
  clear r0 r1 hS hS2
  go_wp2_with fail
  refine (HST.out w2 HS2.out).mono ?_
  rintro e w4 ⟨rfl, hl4⟩
  have HL4 := Lib.hid hl4
  have HBI4 := Lib.hid (hl4.kp bi _ HKB.out).1
  obtain ⟨⟨vr4, vf4, rv4, la4⟩, lz4⟩ := hl4.lg
  clear c0 b0 bz c2 s4 cz sz hp1 q0 hl4 lz4 hpl hgz
  obtain ⟨b0, bf, bz⟩ := block1 HBI4.out
  clear bf
  have hn' := HN'.out
  obtain ⟨ga4, fc, hvf, hgz4, -, -, hcs4, -⟩ := row5_elem (f := fiV) (fun _ => rfl) la4.frow n' (by omega)
  subst hvf
  have s1 := hcs4 1 (by omega)
  have hff : h1.files[n']'(by omega) = f := by have h := HF1.out; rw [List.getElem?_eq_getElem (by omega)] at h; exact Option.some.inj h
  rw [hff] at s1
  simp only [fiV, List.getElem?_cons_zero, List.getElem?_cons_succ] at s1
  obtain ⟨fl, hfl⟩ : ∃ fl, fl = f.last := ⟨_, rfl⟩
  have hlast := HLT.out
  rw [← hfl] at hlast s1
  obtain ⟨-, -, -, c3, -, -, -, cz⟩ := seven_cells la4.box
  obtain ⟨nf, hnf⟩ : ∃ nf, nf = h1.files.length := ⟨_, rfl⟩
  rw [← hnf] at c3
  have hx : (nf : Int) - 1 = (n' : Int) := by omega
  have hx2 : (n' : Int) < (nf : Int) := by omega
  have hx3 : decide ((0 : Int) < (nf : Int)) = true := decide_eq_true (by omega)
  have hx5 : decide (0 < nf) = true := decide_eq_true (by omega)
  have hx6 : 0 < nf := by omega
  have hx4 : (nf : Int) ≤ 1000000 := by have := HFL.out; omega
  have hx7 : IntKind.i64.wrap (n' : Int) = (n' : Int) := IntWalk.i64_in _ (by omega)
  have q1 : decide (ix ≤ fl) = true := decide_eq_true (by omega)
  have keep : ∀ {q o : Nat} {v : Value}, q < w4.heap.size → w4.cell? ⟨q, o, none⟩ = some v → ∀ w', Below w4.heap.size w4 w' → w'.cell? ⟨q, o, none⟩ = some v := fun {q o v} hq hv w' hb => (World.cell?_of_block (a := ⟨q, o, none⟩) (hb.block q hq)).trans hv
  have r0 := keep bz b0
  have r2 := keep cz c3
  have r3 := keep hgz4 s1
  have hS : Below w4.heap.size w4 w4.drew := (Below.refl _ _).drew
  clear la4 hn' hcs4 hff hfl hnf keep s1 hlast b0
  go_wp2_with fail
  clear c3 cz bz hgz4
  refine wp_region_held (S := fun w' => Below w4.heap.size w4 w') (by kernel_rfl) ?_
  refine H_take (i := 0) (v := ?_) rfl (by as_aux_lemma => kernel_rfl) (by as_aux_lemma => kernel_rfl) (by as_aux_lemma => kernel_rfl) (fun _ _ _ h => h) (by rfl) hS ?_ ?_
  rotate_left
  · intro w' hw'; go_simp; with_reducible rfl
  go_simp
  refine H_take (i := 1) (v := ?_) rfl (by as_aux_lemma => kernel_rfl) (by as_aux_lemma => kernel_rfl) (by as_aux_lemma => kernel_rfl) (fun _ _ _ h => h) (by rfl) hS ?_ ?_
  rotate_left
  · intro w' hw'; go_simp; with_reducible rfl
  go_simp
  refine H_take (i := 2) (v := ?_) rfl (by as_aux_lemma => kernel_rfl) (by as_aux_lemma => kernel_rfl) (by as_aux_lemma => kernel_rfl) (fun _ _ _ h => h) (by rfl) hS ?_ ?_
  rotate_left
  · intro w' hw'; go_simp; with_reducible rfl
  go_simp
  refine H_take (i := 3) (v := ?_) rfl (by as_aux_lemma => kernel_rfl) (by as_aux_lemma => kernel_rfl) (by as_aux_lemma => kernel_rfl) (fun _ _ _ h => h) (by rfl) hS ?_ ?_
  rotate_left
  · intro w' hw'; go_simp; with_reducible rfl
  go_simp
  refine H_take (i := 4) (v := ?_) rfl (by as_aux_lemma => kernel_rfl) (by as_aux_lemma => kernel_rfl) (by as_aux_lemma => kernel_rfl) (fun _ _ _ h => h) (by rfl) hS ?_ ?_
  rotate_left
  · intro w' hw'; go_simp; with_reducible rfl
  go_simp
  refine H_take (i := 5) (v := ?_) rfl (by as_aux_lemma => kernel_rfl) (by as_aux_lemma => kernel_rfl) (by as_aux_lemma => kernel_rfl) (fun _ _ _ h => h) (by rfl) hS ?_ ?_
  rotate_left
  · intro w' hw'; go_simp; with_reducible rfl
  go_simp
  refine H_take (i := 6) (v := ?_) rfl (by as_aux_lemma => kernel_rfl) (by as_aux_lemma => kernel_rfl) (by as_aux_lemma => kernel_rfl) (fun _ _ _ h => h) (by rfl) hS ?_ ?_
  rotate_left
  · intro w' hw'; go_simp; with_reducible rfl
  go_simp
  refine H_take (i := 7) (v := ?_) rfl (by as_aux_lemma => kernel_rfl) (by as_aux_lemma => kernel_rfl) (by as_aux_lemma => kernel_rfl) (fun _ _ _ h => h) (by rfl) hS ?_ ?_
  rotate_left
  · intro w' hw'; go_simp; with_reducible rfl
  go_simp
  refine H_take (i := 8) (v := ?_) rfl (by as_aux_lemma => kernel_rfl) (by as_aux_lemma => kernel_rfl) (by as_aux_lemma => kernel_rfl) (fun _ _ _ h => h) (by rfl) hS ?_ ?_
  rotate_left
  · intro w' hw'; go_simp; with_reducible rfl
  go_simp
  refine H_take (i := 9) (v := ?_) rfl (by as_aux_lemma => kernel_rfl) (by as_aux_lemma => kernel_rfl) (by as_aux_lemma => kernel_rfl) (fun _ _ _ h => h) (by rfl) hS ?_ ?_
  rotate_left
  · intro w' hw'; go_simp; with_reducible rfl
  go_simp
  refine H_take (i := 10) (v := ?_) rfl (by as_aux_lemma => kernel_rfl) (by as_aux_lemma => kernel_rfl) (by as_aux_lemma => kernel_rfl) (fun _ _ _ h => h) (by rfl) hS ?_ ?_
  rotate_left
  · intro w' hw'; go_simp; with_reducible rfl
  go_simp
  refine H_take (i := 11) (v := ?_) rfl (by as_aux_lemma => kernel_rfl) (by as_aux_lemma => kernel_rfl) (by as_aux_lemma => kernel_rfl) (fun _ _ _ h => h) (by rfl) hS ?_ ?_
  rotate_left
  · intro w' hw'; go_simp; with_reducible rfl
  go_simp
  refine H_take (i := 12) (v := ?_) rfl (by as_aux_lemma => kernel_rfl) (by as_aux_lemma => kernel_rfl) (by as_aux_lemma => kernel_rfl) (fun _ _ _ h => h) (by rfl) hS ?_ ?_
  rotate_left
  · intro w' hw'; go_simp; with_reducible rfl
  go_simp
  refine H_take (i := 13) (v := ?_) rfl (by as_aux_lemma => kernel_rfl) (by as_aux_lemma => kernel_rfl) (by as_aux_lemma => kernel_rfl) (fun _ _ _ h => h) (by rfl) hS ?_ ?_
  rotate_left
  · intro w' hw'; go_simp; with_reducible rfl
  go_simp
  refine H_take (i := 14) (v := ?_) rfl (by as_aux_lemma => kernel_rfl) (by as_aux_lemma => kernel_rfl) (by as_aux_lemma => kernel_rfl) (fun _ _ _ h => h) (by rfl) hS ?_ ?_
  rotate_left
  · intro w' hw'; go_simp; with_reducible rfl
  go_simp
  refine H_take (i := 15) (v := ?_) rfl (by as_aux_lemma => kernel_rfl) (by as_aux_lemma => kernel_rfl) (by as_aux_lemma => kernel_rfl) (fun _ _ _ h => h) (by rfl) hS ?_ ?_
  rotate_left
  · intro w' hw'; go_simp; with_reducible rfl
  go_simp
  refine wpAnyH_done (by as_aux_lemma => kernel_rfl) ?_ _
  clear r0 r2 r3 hS
  have b0 : w4.drew.cell? ⟨bi, 0, none⟩ = some (.int .i64 ix) := cell_of_row _ _ 0 _ _ _ HBI4.out
  have bz : bi < w4.drew.heap.size := lt_of_heap HBI4.out
  obtain ⟨hi1, hi2⟩ := HIX.out
  go_wp2_with fail
  refine (HCT.out w4.drew (HL4.out.next (Below.refl _ w4).drew)).mono ?_
  rintro e w6 ⟨rfl, Xd2, hl6⟩
  have HL6 := Lib.hid hl6
  have HBI6 := Lib.hid (hl6.kp bi _ HKB.out).1
  clear hl6 b0 bz hi1 hi2
  go_wp2_with fail
  have r1 : ∀ w' : World, w'.heap[bi]? = some (.cells #[.int .i64 ix] 3) → w'.cell? ⟨bi, 0, none⟩ = some (.int .i64 ix) := fun w' h => cell_of_row _ _ 0 _ _ _ h
  have hS : w6.drew.heap[bi]? = some (.cells #[.int .i64 ix] 3) := HBI6.out
  refine wp_region_held (S := fun w' : World => w'.heap[bi]? = some (.cells #[.int .i64 ix] 3)) (by kernel_rfl) ?_
  refine H_take (i := 0) (v := ?_) rfl (by as_aux_lemma => kernel_rfl) (by as_aux_lemma => kernel_rfl) (by as_aux_lemma => kernel_rfl) (fun _ _ _ h => h) (by rfl) hS ?_ ?_
  rotate_left
  · intro w' hw'; go_simp; with_reducible rfl
  go_simp
  refine H_take (i := 1) (v := ?_) rfl (by as_aux_lemma => kernel_rfl) (by as_aux_lemma => kernel_rfl) (by as_aux_lemma => kernel_rfl) (fun _ _ _ h => h) (by rfl) hS ?_ ?_
  rotate_left
  · intro w' hw'; go_simp; with_reducible rfl
  go_simp
  refine H_take (i := 2) (v := ?_) rfl (by as_aux_lemma => kernel_rfl) (by as_aux_lemma => kernel_rfl) (by as_aux_lemma => kernel_rfl) (fun _ _ _ h => h) (by rfl) hS ?_ ?_
  rotate_left
  · intro w' hw'; go_simp; with_reducible rfl
  go_simp
  refine H_take (i := 3) (v := ?_) rfl (by as_aux_lemma => kernel_rfl) (by as_aux_lemma => kernel_rfl) (by as_aux_lemma => kernel_rfl) (fun _ _ _ h => h) (by rfl) hS ?_ ?_
  rotate_left
  · intro w' hw'; go_simp; with_reducible rfl
  go_simp
  refine H_one (i := 4) (by as_aux_lemma => kernel_rfl) rfl (by rfl) ?_
  go_simp
  refine (HFG.out w6.drew Xd2 (HL6.out.next (Below.refl _ w6).drew)).mono ?_
  rintro e w5 ⟨rfl, hl5⟩
  have HL5 := Lib.hid (HL1.out.stay hl5)
  have hS5 := (hl5.kp bi _ HKB.out).1
  refine ⟨hS5, ?_⟩
  clear hl5
  go_simp
  refine wpAnyH_done (by as_aux_lemma => kernel_rfl) ?_ _
  clear r1 hS hS5
  go_wp2_with fail
  go_ret
  exact ⟨rfl, Xd2, HL5.out⟩
end Go.Proofs.YtamgjlegcegmeaaGreatDoor.M

/- Part: SegDrp. -/
namespace Go.Proofs.YtamgjlegcegmeaaGreatDoor.M
open Go.RowKit Go.Maps
open D (Fl Dk)

/-- Segments from the front go, while all that they have is dropped. -/
def dropE (mi : Int) : Nat → Hd → Dk → Int × Hd × Dk
  | 0, h, d => (0, h, d)
  | n + 1, h, d => match h.files with
    | [] => (0, h, d)
    | f :: _ => if f.has && decide (f.last ≤ mi) then (if (removedE h d 0 f).1 ≠ 0 then removedE h d 0 f else dropE mi n (removedE h d 0 f).2.1 (removedE h d 0 f).2.2) else (0, h, d)

set_option maxRecDepth 20000 in
set_option maxHeartbeats 6400000 in
theorem dropTo_ok (K : Nat → Obj → Prop) (w wa : World) (X Xd : Nat → Prop) (g gd : Nat) (least : Int) (h : Hd) (d : Dk) (l : LS K w X Xd g gd least h d wa) (ho : HdOk h) (hsq : h.Seq) (mi mt : Int) (hm : (0 ≤ mi ∧ mi < 10000000000)) (ht : termAt h mi = (mt, true)) (hP : Hid (Pow10 w)) (h1 : Hd) (d1 : Dk) (hr : dropE mi h.files.length (begun h mi mt) d = (0, h1, d1)) :
    Calls Tryz.prog 9 #[.pointer (some ⟨g, 0, none⟩), .agg #[.int .i64 mi, .int .i64 mt]] wa fun e w' => e = .returned (.int .i64 0) ∧ LS K w X Xd g gd least h1 d1 w' := by
  obtain ⟨W1, hW1⟩ : ∃ W1, W1 = wa.alloc (.cells #[.int .i64 mi, .int .i64 mt] 32) := ⟨_, rfl⟩
  obtain ⟨bm, hbm⟩ : ∃ b, b = wa.heap.size := ⟨_, rfl⟩
  have hb1 : Below wa.heap.size wa W1 := by rw [hW1]; exact below_alloc _ _
  have hx1 : W1.heap[bm]? = some (.cells #[.int .i64 mi, .int .i64 mt] 32) := by rw [hW1, hbm]; exact heap_new _ _ _ rfl
  have hnX : ¬ X bm ∧ ¬ Xd bm := by rw [hbm]; exact ⟨fun hx => Nat.lt_irrefl _ (l.lt hx), fun hx => Nat.lt_irrefl _ (l.ds.lt _ hx)⟩
  have hl1 := l.next hb1
  have HL1 := Lib.hid hl1
  have HKB : Hid (W1.heap[bm]? = some (.cells #[.int .i64 mi, .int .i64 mt] 32) ∧ ¬ X bm ∧ ¬ Xd bm) := Lib.hid ⟨hx1, hnX⟩
  have HTM := Lib.hid (Term_any X g gd least h mi W1 hl1.lg ho hsq)
  rw [ht] at HTM
  have HBG : Hid (∀ W2, Below W1.heap.size W1 W2 → Calls Tryz.prog 31 #[.pointer (some ⟨g, 0, none⟩), .agg #[.int .i64 mi, .int .i64 mt]] W2 fun e w' => e = .returned (.tuple #[]) ∧ LS (fun k o => W1.heap[k]? = some o ∧ ¬ X k ∧ ¬ Xd k) w X Xd g gd least (begun h mi mt) d w') := Lib.hid fun W2 hb2 => begin_any _ w W2 X Xd g gd least h d (hl1.keep.next hb2) ho.rl mi mt
  have HR := Lib.hid hr
  have HW1 := Lib.hid hW1
  have HBM := Lib.hid hbm
  have HFB : Hid (∀ f ∈ h.files, 0 ≤ f.first ∧ f.first < 10000000000) := Lib.hid fun f hf => (ho.fb f hf).1
  have HFL := Lib.hid ho.fl
  obtain ⟨b0, b1, -, -, bz⟩ := block2 hx1
  have hmt : ((mt : Int) != mt) = false := by simp
  clear l hl1 hb1 hx1 hnX ht hr hW1 hbm hsq ho
  go_enter Tryz.func9, Tryz.ntmps9
  go_wp2_with fail
  rw [← HW1.out]
  rw [← HBM.out]
  refine HTM.out.mono ?_
  rintro e w2 ⟨rfl, hb2⟩
  have HB2 := Lib.hid hb2
  obtain ⟨b0', b1', -, -, bz'⟩ := block2 (old_below HKB.out.1 hb2)
  clear hb2 b0 b1 bz
  go_wp2_with fail
  have r0 : ∀ w', Below w2.heap.size w2 w' → w'.cell? ⟨bm, 0, none⟩ = some (.int .i64 mi) := fun w' hb => (World.cell?_of_block (a := ⟨bm, 0, none⟩) (hb.block bm bz')).trans b0'
  have r1 : ∀ w', Below w2.heap.size w2 w' → w'.cell? ⟨bm, 1, none⟩ = some (.int .i64 mt) := fun w' hb => (World.cell?_of_block (a := ⟨bm, 1, none⟩) (hb.block bm bz')).trans b1'
  have hS : w2.drew.heap[bm]? = some (.cells #[.int .i64 mi, .int .i64 mt] 32) := (show w2.heap[bm]? = _ from old_below HKB.out.1 HB2.out)
  clear r0 r1 b0' b1' bz'
  have r0 : ∀ w' : World, w'.heap[bm]? = some (.cells #[.int .i64 mi, .int .i64 mt] 32) → w'.cell? ⟨bm, 0, none⟩ = some (.int .i64 mi) := fun w' h => cell_of_row _ _ 0 _ _ _ h
  have r1 : ∀ w' : World, w'.heap[bm]? = some (.cells #[.int .i64 mi, .int .i64 mt] 32) → w'.cell? ⟨bm, 1, none⟩ = some (.int .i64 mt) := fun w' h => cell_of_row _ _ 1 _ _ _ h
  refine wp_region_held (S := fun w' : World => w'.heap[bm]? = some (.cells #[.int .i64 mi, .int .i64 mt] 32)) (by kernel_rfl) ?_
  refine H_take (i := 0) (v := ?_) rfl (by as_aux_lemma => kernel_rfl) (by as_aux_lemma => kernel_rfl) (by as_aux_lemma => kernel_rfl) (fun _ _ _ h => h) (by rfl) hS ?_ ?_
  rotate_left
  · intro w' hw'; go_simp; with_reducible rfl
  go_simp
  refine H_take (i := 1) (v := ?_) rfl (by as_aux_lemma => kernel_rfl) (by as_aux_lemma => kernel_rfl) (by as_aux_lemma => kernel_rfl) (fun _ _ _ h => h) (by rfl) hS ?_ ?_
  rotate_left
  · intro w' hw'; go_simp; with_reducible rfl
  go_simp
  refine H_take (i := 2) (v := ?_) rfl (by as_aux_lemma => kernel_rfl) (by as_aux_lemma => kernel_rfl) (by as_aux_lemma => kernel_rfl) (fun _ _ _ h => h) (by rfl) hS ?_ ?_
  rotate_left
  · intro w' hw'; go_simp; with_reducible rfl
  go_simp
  refine H_take (i := 3) (v := ?_) rfl (by as_aux_lemma => kernel_rfl) (by as_aux_lemma => kernel_rfl) (by as_aux_lemma => kernel_rfl) (fun _ _ _ h => h) (by rfl) hS ?_ ?_
  rotate_left
  · intro w' hw'; go_simp; with_reducible rfl
  go_simp
  refine H_one (i := 4) (by as_aux_lemma => kernel_rfl) rfl (by rfl) ?_
  go_simp
  refine (HBG.out w2.drew HB2.out.drew).mono ?_
  rintro e w3 ⟨rfl, hl3⟩
  have HL3 := Lib.hid hl3
  have hS3 := (hl3.kp bm _ HKB.out).1
  refine ⟨hS3, ?_⟩
  clear hl3
  go_simp
  refine wpAnyH_done (by as_aux_lemma => kernel_rfl) ?_ _
  clear r0 r1 hS hS3
  obtain ⟨n, hn⟩ : ∃ n, n = h.files.length := ⟨_, rfl⟩
  have hn0 : (begun h mi mt).files.length = n := by rw [hn]; rfl
  have HFF : Hid (∀ f ∈ (begun h mi mt).files, 0 ≤ f.first ∧ f.first < 10000000000) := HFB
  rw [← hn] at HR HFL
  obtain ⟨hb, hhb⟩ : ∃ hb, hb = begun h mi mt := ⟨_, rfl⟩
  rw [← hhb] at HR HL3 HFF hn0
  have HN0 := Lib.hid hn0
  clear hn hn0 hhb
  go_wp2_with fail
  go_loopg [7] n (fun gk _ wr => ∃ (h' : Hd) (d' : Dk), gk ≤ n ∧ dropE mi gk h' d' = (0, h1, d1) ∧ h'.files.length = gk ∧ (∀ f ∈ h'.files, 0 ≤ f.first ∧ f.first < 10000000000) ∧ LS (fun k o => W1.heap[k]? = some o ∧ ¬ X k ∧ ¬ Xd k) w X Xd g gd least h' d' wr)
  case atStart => exact ⟨hb, d, Nat.le_refl _, HR.out, HN0.out, HFF.out, HL3.out⟩
  case round =>
    obtain ⟨h', d', e0, e1, e2, e3, e4⟩ := hrel
    have HE0 := Lib.hid e0
    clear e0
    have HE4 := Lib.hid e4
    have hbm := (e4.kp bm _ HKB.out).1
    obtain ⟨b0, b1, -, -, bz⟩ := block2 hbm
    clear b1
    obtain ⟨⟨vr, vf, rv, la⟩, lz⟩ := e4.lg
    obtain ⟨-, -, -, c3, -, -, -, cz⟩ := seven_cells la.box
    have keep : ∀ {q o : Nat} {v : Value}, q < wr.heap.size → wr.cell? ⟨q, o, none⟩ = some v → ∀ w', Below wr.heap.size wr w' → w'.cell? ⟨q, o, none⟩ = some v := fun {q o v} hq hv w' hb => (World.cell?_of_block (a := ⟨q, o, none⟩) (hb.block q hq)).trans hv
    have hS : Below wr.heap.size wr wr.drew := (Below.refl _ _).drew
    have r0 := keep bz b0
    cases hfs : h'.files with
    | nil =>
      obtain ⟨fa, fc, rfl, -, -⟩ := row5_slice la.frow
      rw [hfs] at c3 e2
      simp only [List.length_nil] at c3 e2
      subst e2
      have r1 := keep cz c3
      have HE1 : Hid (h1 = h' ∧ d1 = d') := Lib.hid (by unfold dropE at e1; cases e1; exact ⟨rfl, rfl⟩)
      clear e1 e3 e4 hbm b0 bz la lz c3 cz keep hfs
      go_wp2_with fail
      refine wp_region_held (S := fun w' => Below wr.heap.size wr w') (by kernel_rfl) ?_
      refine H_take (i := 0) (v := ?_) rfl (by as_aux_lemma => kernel_rfl) (by as_aux_lemma => kernel_rfl) (by as_aux_lemma => kernel_rfl) (fun _ _ _ h => h) (by rfl) hS ?_ ?_
      rotate_left
      · intro w' hw'; go_simp; with_reducible rfl
      go_simp
      refine H_take (i := 1) (v := ?_) rfl (by as_aux_lemma => kernel_rfl) (by as_aux_lemma => kernel_rfl) (by as_aux_lemma => kernel_rfl) (fun _ _ _ h => h) (by rfl) hS ?_ ?_
      rotate_left
      · intro w' hw'; go_simp; with_reducible rfl
      go_simp
      refine H_take (i := 2) (v := ?_) rfl (by as_aux_lemma => kernel_rfl) (by as_aux_lemma => kernel_rfl) (by as_aux_lemma => kernel_rfl) (fun _ _ _ h => h) (by rfl) hS ?_ ?_
      rotate_left
      · intro w' hw'; go_simp; with_reducible rfl
      go_simp
      refine H_take (i := 3) (v := ?_) rfl (by as_aux_lemma => kernel_rfl) (by as_aux_lemma => kernel_rfl) (by as_aux_lemma => kernel_rfl) (fun _ _ _ h => h) (by rfl) hS ?_ ?_
      rotate_left
      · intro w' hw'; go_simp; with_reducible rfl
      go_simp
      refine H_take (i := 4) (v := ?_) rfl (by as_aux_lemma => kernel_rfl) (by as_aux_lemma => kernel_rfl) (by as_aux_lemma => kernel_rfl) (fun _ _ _ h => h) (by rfl) hS ?_ ?_
      rotate_left
      · intro w' hw'; go_simp; with_reducible rfl
      go_simp
      refine H_take (i := 5) (v := ?_) rfl (by as_aux_lemma => kernel_rfl) (by as_aux_lemma => kernel_rfl) (by as_aux_lemma => kernel_rfl) (fun _ _ _ h => h) (by rfl) hS ?_ ?_
      rotate_left
      · intro w' hw'; go_simp; with_reducible rfl
      go_simp
      refine H_take (i := 6) (v := ?_) rfl (by as_aux_lemma => kernel_rfl) (by as_aux_lemma => kernel_rfl) (by as_aux_lemma => kernel_rfl) (fun _ _ _ h => h) (by rfl) hS ?_ ?_
      rotate_left
      · intro w' hw'; go_simp; with_reducible rfl
      go_simp
      refine H_take (i := 7) (v := ?_) rfl (by as_aux_lemma => kernel_rfl) (by as_aux_lemma => kernel_rfl) (by as_aux_lemma => kernel_rfl) (fun _ _ _ h => h) (by rfl) hS ?_ ?_
      rotate_left
      · intro w' hw'; go_simp; with_reducible rfl
      go_simp
      refine H_skip (i := 8) rfl (by as_aux_lemma => kernel_rfl) (by as_aux_lemma => kernel_rfl) (by as_aux_lemma => kernel_rfl) (fun _ _ _ h => h) (by rfl) hS ?_
      go_simp
      refine H_skip (i := 9) rfl (by as_aux_lemma => kernel_rfl) (by as_aux_lemma => kernel_rfl) (by as_aux_lemma => kernel_rfl) (fun _ _ _ h => h) (by rfl) hS ?_
      go_simp
      refine H_skip (i := 10) rfl (by as_aux_lemma => kernel_rfl) (by as_aux_lemma => kernel_rfl) (by as_aux_lemma => kernel_rfl) (fun _ _ _ h => h) (by rfl) hS ?_
      go_simp
      refine H_skip (i := 11) rfl (by as_aux_lemma => kernel_rfl) (by as_aux_lemma => kernel_rfl) (by as_aux_lemma => kernel_rfl) (fun _ _ _ h => h) (by rfl) hS ?_
      go_simp
      refine H_skip (i := 12) rfl (by as_aux_lemma => kernel_rfl) (by as_aux_lemma => kernel_rfl) (by as_aux_lemma => kernel_rfl) (fun _ _ _ h => h) (by rfl) hS ?_
      go_simp
      refine H_skip (i := 13) rfl (by as_aux_lemma => kernel_rfl) (by as_aux_lemma => kernel_rfl) (by as_aux_lemma => kernel_rfl) (fun _ _ _ h => h) (by rfl) hS ?_
      go_simp
      refine H_skip (i := 14) rfl (by as_aux_lemma => kernel_rfl) (by as_aux_lemma => kernel_rfl) (by as_aux_lemma => kernel_rfl) (fun _ _ _ h => h) (by rfl) hS ?_
      go_simp
      refine H_skip (i := 15) rfl (by as_aux_lemma => kernel_rfl) (by as_aux_lemma => kernel_rfl) (by as_aux_lemma => kernel_rfl) (fun _ _ _ h => h) (by rfl) hS ?_
      go_simp
      refine H_take (i := 16) (v := ?_) rfl (by as_aux_lemma => kernel_rfl) (by as_aux_lemma => kernel_rfl) (by as_aux_lemma => kernel_rfl) (fun _ _ _ h => h) (by rfl) hS ?_ ?_
      rotate_left
      · intro w' hw'; go_simp; with_reducible rfl
      go_simp
      refine H_take (i := 17) (v := ?_) rfl (by as_aux_lemma => kernel_rfl) (by as_aux_lemma => kernel_rfl) (by as_aux_lemma => kernel_rfl) (fun _ _ _ h => h) (by rfl) hS ?_ ?_
      rotate_left
      · intro w' hw'; go_simp; with_reducible rfl
      go_simp
      refine H_skip (i := 18) rfl (by as_aux_lemma => kernel_rfl) (by as_aux_lemma => kernel_rfl) (by as_aux_lemma => kernel_rfl) (fun _ _ _ h => h) (by rfl) hS ?_
      go_simp
      refine H_skip (i := 19) rfl (by as_aux_lemma => kernel_rfl) (by as_aux_lemma => kernel_rfl) (by as_aux_lemma => kernel_rfl) (fun _ _ _ h => h) (by rfl) hS ?_
      go_simp
      refine H_skip (i := 20) rfl (by as_aux_lemma => kernel_rfl) (by as_aux_lemma => kernel_rfl) (by as_aux_lemma => kernel_rfl) (fun _ _ _ h => h) (by rfl) hS ?_
      go_simp
      refine H_skip (i := 21) rfl (by as_aux_lemma => kernel_rfl) (by as_aux_lemma => kernel_rfl) (by as_aux_lemma => kernel_rfl) (fun _ _ _ h => h) (by rfl) hS ?_
      go_simp
      refine H_skip (i := 22) rfl (by as_aux_lemma => kernel_rfl) (by as_aux_lemma => kernel_rfl) (by as_aux_lemma => kernel_rfl) (fun _ _ _ h => h) (by rfl) hS ?_
      go_simp
      refine H_skip (i := 23) rfl (by as_aux_lemma => kernel_rfl) (by as_aux_lemma => kernel_rfl) (by as_aux_lemma => kernel_rfl) (fun _ _ _ h => h) (by rfl) hS ?_
      go_simp
      refine H_skip (i := 24) rfl (by as_aux_lemma => kernel_rfl) (by as_aux_lemma => kernel_rfl) (by as_aux_lemma => kernel_rfl) (fun _ _ _ h => h) (by rfl) hS ?_
      go_simp
      refine H_skip (i := 25) rfl (by as_aux_lemma => kernel_rfl) (by as_aux_lemma => kernel_rfl) (by as_aux_lemma => kernel_rfl) (fun _ _ _ h => h) (by rfl) hS ?_
      go_simp
      refine H_skip (i := 26) rfl (by as_aux_lemma => kernel_rfl) (by as_aux_lemma => kernel_rfl) (by as_aux_lemma => kernel_rfl) (fun _ _ _ h => h) (by rfl) hS ?_
      go_simp
      refine H_skip (i := 27) rfl (by as_aux_lemma => kernel_rfl) (by as_aux_lemma => kernel_rfl) (by as_aux_lemma => kernel_rfl) (fun _ _ _ h => h) (by rfl) hS ?_
      go_simp
      refine H_skip (i := 28) rfl (by as_aux_lemma => kernel_rfl) (by as_aux_lemma => kernel_rfl) (by as_aux_lemma => kernel_rfl) (fun _ _ _ h => h) (by rfl) hS ?_
      go_simp
      refine H_take (i := 29) (v := ?_) rfl (by as_aux_lemma => kernel_rfl) (by as_aux_lemma => kernel_rfl) (by as_aux_lemma => kernel_rfl) (fun _ _ _ h => h) (by rfl) hS ?_ ?_
      rotate_left
      · intro w' hw'; go_simp; with_reducible rfl
      go_simp
      refine wpAnyH_done (by as_aux_lemma => kernel_rfl) ?_ _
      clear r0 r1 hS
      go_wp2_with fail
      go_ret
      refine ⟨rfl, HL1.out.stay ?_⟩
      rw [HE1.out.1, HE1.out.2]
      exact HE4.out.next (Below.refl _ _).drew
    | cons f fs =>
      have hgk : 0 < gk := by rw [← e2, hfs]; simp
      obtain ⟨n', hn'⟩ : ∃ n', gk = n' + 1 := ⟨gk - 1, by omega⟩
      obtain ⟨ga, fc, hvf, hgz, -, -, hcs, -⟩ := row5_elem (f := fiV) (fun _ => rfl) la.frow 0 (by rw [e2]; exact hgk)
      subst hvf
      rw [e2] at c3
      have hf0 : h'.files[0]'(by rw [e2]; exact hgk) = f := by simp [hfs]
      rw [hf0] at hcs
      have s0 := hcs 0 (by omega)
      have s1 := hcs 1 (by omega)
      have s2 := hcs 2 (by omega)
      have s3 := hcs 3 (by omega)
      have s4 := hcs 4 (by omega)
      simp only [fiV, List.getElem?_cons_zero, List.getElem?_cons_succ, Nat.zero_mul, Nat.zero_add] at s0 s1 s2 s3 s4
      have r1 := keep cz c3
      have r2 := keep hgz s0
      have r3 := keep hgz s1
      have r4 := keep hgz s2
      have r5 := keep hgz s3
      have r6 := keep hgz s4
      have hx3 : decide ((0 : Int) < (gk : Int)) = true := decide_eq_true (by omega)
      have hx5 : decide (0 < gk) = true := decide_eq_true (by omega)
      have hx4 : (gk : Int) ≤ 1000000 := by have := HFL.out; have := HE0.out; omega
      have HHS := Lib.hid (SgHas_any f wr.drew)
      have HRM : Hid (∀ w5, Below wr.heap.size wr w5 → Calls Tryz.prog 33 #[.pointer (some ⟨g, 0, none⟩), .int .i64 0] w5 fun e w' => e = .returned (.int .i64 (removedE h' d' 0 f).1) ∧ LS (fun k o => W1.heap[k]? = some o ∧ ¬ X k ∧ ¬ Xd k) w X Xd g gd least (removedE h' d' 0 f).2.1 (removedE h' d' 0 f).2.2 w') := Lib.hid fun w5 hb5 =>
        (remove_any _ w w5 X Xd g gd least h' d' (e4.next hb5) 0 n' f (by omega) (by rw [hfs]; rfl) (by rw [e2]; have := HFL.out; have := HE0.out; omega) (e3 f (by rw [hfs]; simp)) hP).mono fun e w' hp => ⟨hp.1, hp.2.1⟩
      rw [hn'] at e1
      unfold dropE at e1
      rw [hfs] at e1
      simp only at e1
      have HE3 := Lib.hid e3
      have HE2 := Lib.hid e2
      have HFS := Lib.hid hfs
      have HN' := Lib.hid hn'
      clear e2 e3 e4 hbm b0 bz la lz c3 cz keep hfs hf0 hcs s0 s1 s2 s3 s4 hn' hgz
      obtain ⟨q, hq⟩ : ∃ q, q = (f.has && decide (f.last ≤ mi)) := ⟨_, rfl⟩
      rw [← hq] at e1
      cases hhas : f.has with
      | false =>
        rw [hhas] at hq HHS
        have hq0 : q = false := by rw [hq]; rfl
        have HE1 : Hid (h1 = h' ∧ d1 = d') := Lib.hid (by rw [hq0, if_neg (by decide)] at e1; cases e1; exact ⟨rfl, rfl⟩)
        clear hq hq0 e1 hhas
        obtain ⟨f0, f1, f2, f3, f4⟩ := f
        unfold fiAgg at HHS
        simp only at HHS r2 r3 r4 r5 r6
        go_wp2_with fail
        refine wp_region_held (S := fun w' => Below wr.heap.size wr w') (by kernel_rfl) ?_
        refine H_take (i := 0) (v := ?_) rfl (by as_aux_lemma => kernel_rfl) (by as_aux_lemma => kernel_rfl) (by as_aux_lemma => kernel_rfl) (fun _ _ _ h => h) (by rfl) hS ?_ ?_
        rotate_left
        · intro w' hw'; go_simp; with_reducible rfl
        go_simp
        refine H_take (i := 1) (v := ?_) rfl (by as_aux_lemma => kernel_rfl) (by as_aux_lemma => kernel_rfl) (by as_aux_lemma => kernel_rfl) (fun _ _ _ h => h) (by rfl) hS ?_ ?_
        rotate_left
        · intro w' hw'; go_simp; with_reducible rfl
        go_simp
        refine H_take (i := 2) (v := ?_) rfl (by as_aux_lemma => kernel_rfl) (by as_aux_lemma => kernel_rfl) (by as_aux_lemma => kernel_rfl) (fun _ _ _ h => h) (by rfl) hS ?_ ?_
        rotate_left
        · intro w' hw'; go_simp; with_reducible rfl
        go_simp
        refine H_take (i := 3) (v := ?_) rfl (by as_aux_lemma => kernel_rfl) (by as_aux_lemma => kernel_rfl) (by as_aux_lemma => kernel_rfl) (fun _ _ _ h => h) (by rfl) hS ?_ ?_
        rotate_left
        · intro w' hw'; go_simp; with_reducible rfl
        go_simp
        refine H_take (i := 4) (v := ?_) rfl (by as_aux_lemma => kernel_rfl) (by as_aux_lemma => kernel_rfl) (by as_aux_lemma => kernel_rfl) (fun _ _ _ h => h) (by rfl) hS ?_ ?_
        rotate_left
        · intro w' hw'; go_simp; with_reducible rfl
        go_simp
        refine H_take (i := 5) (v := ?_) rfl (by as_aux_lemma => kernel_rfl) (by as_aux_lemma => kernel_rfl) (by as_aux_lemma => kernel_rfl) (fun _ _ _ h => h) (by rfl) hS ?_ ?_
        rotate_left
        · intro w' hw'; go_simp; with_reducible rfl
        go_simp
        refine H_take (i := 6) (v := ?_) rfl (by as_aux_lemma => kernel_rfl) (by as_aux_lemma => kernel_rfl) (by as_aux_lemma => kernel_rfl) (fun _ _ _ h => h) (by rfl) hS ?_ ?_
        rotate_left
        · intro w' hw'; go_simp; with_reducible rfl
        go_simp
        refine H_take (i := 7) (v := ?_) rfl (by as_aux_lemma => kernel_rfl) (by as_aux_lemma => kernel_rfl) (by as_aux_lemma => kernel_rfl) (fun _ _ _ h => h) (by rfl) hS ?_ ?_
        rotate_left
        · intro w' hw'; go_simp; with_reducible rfl
        go_simp
        refine H_take (i := 8) (v := ?_) rfl (by as_aux_lemma => kernel_rfl) (by as_aux_lemma => kernel_rfl) (by as_aux_lemma => kernel_rfl) (fun _ _ _ h => h) (by rfl) hS ?_ ?_
        rotate_left
        · intro w' hw'; go_simp; with_reducible rfl
        go_simp
        refine H_take (i := 9) (v := ?_) rfl (by as_aux_lemma => kernel_rfl) (by as_aux_lemma => kernel_rfl) (by as_aux_lemma => kernel_rfl) (fun _ _ _ h => h) (by rfl) hS ?_ ?_
        rotate_left
        · intro w' hw'; go_simp; with_reducible rfl
        go_simp
        refine H_take (i := 10) (v := ?_) rfl (by as_aux_lemma => kernel_rfl) (by as_aux_lemma => kernel_rfl) (by as_aux_lemma => kernel_rfl) (fun _ _ _ h => h) (by rfl) hS ?_ ?_
        rotate_left
        · intro w' hw'; go_simp; with_reducible rfl
        go_simp
        refine H_take (i := 11) (v := ?_) rfl (by as_aux_lemma => kernel_rfl) (by as_aux_lemma => kernel_rfl) (by as_aux_lemma => kernel_rfl) (fun _ _ _ h => h) (by rfl) hS ?_ ?_
        rotate_left
        · intro w' hw'; go_simp; with_reducible rfl
        go_simp
        refine H_take (i := 12) (v := ?_) rfl (by as_aux_lemma => kernel_rfl) (by as_aux_lemma => kernel_rfl) (by as_aux_lemma => kernel_rfl) (fun _ _ _ h => h) (by rfl) hS ?_ ?_
        rotate_left
        · intro w' hw'; go_simp; with_reducible rfl
        go_simp
        refine H_take (i := 13) (v := ?_) rfl (by as_aux_lemma => kernel_rfl) (by as_aux_lemma => kernel_rfl) (by as_aux_lemma => kernel_rfl) (fun _ _ _ h => h) (by rfl) hS ?_ ?_
        rotate_left
        · intro w' hw'; go_simp; with_reducible rfl
        go_simp
        refine H_take (i := 14) (v := ?_) rfl (by as_aux_lemma => kernel_rfl) (by as_aux_lemma => kernel_rfl) (by as_aux_lemma => kernel_rfl) (fun _ _ _ h => h) (by rfl) hS ?_ ?_
        rotate_left
        · intro w' hw'; go_simp; with_reducible rfl
        go_simp
        refine H_one (i := 15) (by as_aux_lemma => kernel_rfl) rfl (by rfl) ?_
        go_simp
        refine HHS.out.mono ?_
        rintro e w5 ⟨rfl, hb5⟩
        have hS5 : Below wr.heap.size wr w5 := hS.trans hb5
        refine ⟨hS5, ?_⟩
        go_simp
        refine H_take (i := 16) (v := ?_) rfl (by as_aux_lemma => kernel_rfl) (by as_aux_lemma => kernel_rfl) (by as_aux_lemma => kernel_rfl) (fun _ _ _ h => h) (by rfl) hS5 ?_ ?_
        rotate_left
        · intro w' hw'; go_simp; with_reducible rfl
        go_simp
        refine H_take (i := 17) (v := ?_) rfl (by as_aux_lemma => kernel_rfl) (by as_aux_lemma => kernel_rfl) (by as_aux_lemma => kernel_rfl) (fun _ _ _ h => h) (by rfl) hS5 ?_ ?_
        rotate_left
        · intro w' hw'; go_simp; with_reducible rfl
        go_simp
        refine H_skip (i := 18) rfl (by as_aux_lemma => kernel_rfl) (by as_aux_lemma => kernel_rfl) (by as_aux_lemma => kernel_rfl) (fun _ _ _ h => h) (by rfl) hS5 ?_
        go_simp
        refine H_skip (i := 19) rfl (by as_aux_lemma => kernel_rfl) (by as_aux_lemma => kernel_rfl) (by as_aux_lemma => kernel_rfl) (fun _ _ _ h => h) (by rfl) hS5 ?_
        go_simp
        refine H_skip (i := 20) rfl (by as_aux_lemma => kernel_rfl) (by as_aux_lemma => kernel_rfl) (by as_aux_lemma => kernel_rfl) (fun _ _ _ h => h) (by rfl) hS5 ?_
        go_simp
        refine H_skip (i := 21) rfl (by as_aux_lemma => kernel_rfl) (by as_aux_lemma => kernel_rfl) (by as_aux_lemma => kernel_rfl) (fun _ _ _ h => h) (by rfl) hS5 ?_
        go_simp
        refine H_skip (i := 22) rfl (by as_aux_lemma => kernel_rfl) (by as_aux_lemma => kernel_rfl) (by as_aux_lemma => kernel_rfl) (fun _ _ _ h => h) (by rfl) hS5 ?_
        go_simp
        refine H_skip (i := 23) rfl (by as_aux_lemma => kernel_rfl) (by as_aux_lemma => kernel_rfl) (by as_aux_lemma => kernel_rfl) (fun _ _ _ h => h) (by rfl) hS5 ?_
        go_simp
        refine H_skip (i := 24) rfl (by as_aux_lemma => kernel_rfl) (by as_aux_lemma => kernel_rfl) (by as_aux_lemma => kernel_rfl) (fun _ _ _ h => h) (by rfl) hS5 ?_
        go_simp
        refine H_skip (i := 25) rfl (by as_aux_lemma => kernel_rfl) (by as_aux_lemma => kernel_rfl) (by as_aux_lemma => kernel_rfl) (fun _ _ _ h => h) (by rfl) hS5 ?_
        go_simp
        refine H_skip (i := 26) rfl (by as_aux_lemma => kernel_rfl) (by as_aux_lemma => kernel_rfl) (by as_aux_lemma => kernel_rfl) (fun _ _ _ h => h) (by rfl) hS5 ?_
        go_simp
        refine H_skip (i := 27) rfl (by as_aux_lemma => kernel_rfl) (by as_aux_lemma => kernel_rfl) (by as_aux_lemma => kernel_rfl) (fun _ _ _ h => h) (by rfl) hS5 ?_
        go_simp
        refine H_skip (i := 28) rfl (by as_aux_lemma => kernel_rfl) (by as_aux_lemma => kernel_rfl) (by as_aux_lemma => kernel_rfl) (fun _ _ _ h => h) (by rfl) hS5 ?_
        go_simp
        refine H_take (i := 29) (v := ?_) rfl (by as_aux_lemma => kernel_rfl) (by as_aux_lemma => kernel_rfl) (by as_aux_lemma => kernel_rfl) (fun _ _ _ h => h) (by rfl) hS5 ?_ ?_
        rotate_left
        · intro w' hw'; go_simp; with_reducible rfl
        go_simp
        refine wpAnyH_done (by as_aux_lemma => kernel_rfl) ?_ _
        have HS5 := Lib.hid hS5
        clear r0 r1 r2 r3 r4 r5 r6 hS hS5 hb5
        go_wp2_with fail
        go_ret
        refine ⟨rfl, HL1.out.stay ?_⟩
        rw [HE1.out.1, HE1.out.2]
        exact HE4.out.next HS5.out
      | true =>
        rw [hhas] at hq HHS
        by_cases hle : f.last ≤ mi
        · have hle2 : decide (f.last ≤ mi) = true := decide_eq_true hle
          have hq1 : q = true := by rw [hq, hle2]; rfl
          rw [hq1, if_pos rfl] at e1
          have hr0 : (removedE h' d' 0 f).1 = 0 := by
            by_cases hz : (removedE h' d' 0 f).1 = 0
            · exact hz
            · rw [if_pos hz] at e1
              exact absurd (by rw [e1]) hz
          rw [if_neg (fun h => h hr0)] at e1
          rw [hr0] at HRM
          have HE1 := Lib.hid e1
          have HFI : Hid ((removedE h' d' 0 f).2.1.files = fs) := Lib.hid (by
            unfold removedE at hr0 ⊢
            simp only at hr0 ⊢
            rw [if_pos hr0]
            simp [HFS.out])
          obtain ⟨hh, hhh⟩ : ∃ hh, hh = (removedE h' d' 0 f).2.1 := ⟨_, rfl⟩
          obtain ⟨dd, hdd⟩ : ∃ dd, dd = (removedE h' d' 0 f).2.2 := ⟨_, rfl⟩
          rw [← hhh, ← hdd] at HE1 HRM
          rw [← hhh] at HFI
          clear hq hq1 e1 hhas hle hhh hdd hr0
          obtain ⟨f0, f1, f2, f3, f4⟩ := f
          unfold fiAgg at HHS
          simp only at HHS r2 r3 r4 r5 r6 hle2
          go_wp2_with fail
          refine wp_region_held (S := fun w' => Below wr.heap.size wr w') (by kernel_rfl) ?_
          refine H_take (i := 0) (v := ?_) rfl (by as_aux_lemma => kernel_rfl) (by as_aux_lemma => kernel_rfl) (by as_aux_lemma => kernel_rfl) (fun _ _ _ h => h) (by rfl) hS ?_ ?_
          rotate_left
          · intro w' hw'; go_simp; with_reducible rfl
          go_simp
          refine H_take (i := 1) (v := ?_) rfl (by as_aux_lemma => kernel_rfl) (by as_aux_lemma => kernel_rfl) (by as_aux_lemma => kernel_rfl) (fun _ _ _ h => h) (by rfl) hS ?_ ?_
          rotate_left
          · intro w' hw'; go_simp; with_reducible rfl
          go_simp
          refine H_take (i := 2) (v := ?_) rfl (by as_aux_lemma => kernel_rfl) (by as_aux_lemma => kernel_rfl) (by as_aux_lemma => kernel_rfl) (fun _ _ _ h => h) (by rfl) hS ?_ ?_
          rotate_left
          · intro w' hw'; go_simp; with_reducible rfl
          go_simp
          refine H_take (i := 3) (v := ?_) rfl (by as_aux_lemma => kernel_rfl) (by as_aux_lemma => kernel_rfl) (by as_aux_lemma => kernel_rfl) (fun _ _ _ h => h) (by rfl) hS ?_ ?_
          rotate_left
          · intro w' hw'; go_simp; with_reducible rfl
          go_simp
          refine H_take (i := 4) (v := ?_) rfl (by as_aux_lemma => kernel_rfl) (by as_aux_lemma => kernel_rfl) (by as_aux_lemma => kernel_rfl) (fun _ _ _ h => h) (by rfl) hS ?_ ?_
          rotate_left
          · intro w' hw'; go_simp; with_reducible rfl
          go_simp
          refine H_take (i := 5) (v := ?_) rfl (by as_aux_lemma => kernel_rfl) (by as_aux_lemma => kernel_rfl) (by as_aux_lemma => kernel_rfl) (fun _ _ _ h => h) (by rfl) hS ?_ ?_
          rotate_left
          · intro w' hw'; go_simp; with_reducible rfl
          go_simp
          refine H_take (i := 6) (v := ?_) rfl (by as_aux_lemma => kernel_rfl) (by as_aux_lemma => kernel_rfl) (by as_aux_lemma => kernel_rfl) (fun _ _ _ h => h) (by rfl) hS ?_ ?_
          rotate_left
          · intro w' hw'; go_simp; with_reducible rfl
          go_simp
          refine H_take (i := 7) (v := ?_) rfl (by as_aux_lemma => kernel_rfl) (by as_aux_lemma => kernel_rfl) (by as_aux_lemma => kernel_rfl) (fun _ _ _ h => h) (by rfl) hS ?_ ?_
          rotate_left
          · intro w' hw'; go_simp; with_reducible rfl
          go_simp
          refine H_take (i := 8) (v := ?_) rfl (by as_aux_lemma => kernel_rfl) (by as_aux_lemma => kernel_rfl) (by as_aux_lemma => kernel_rfl) (fun _ _ _ h => h) (by rfl) hS ?_ ?_
          rotate_left
          · intro w' hw'; go_simp; with_reducible rfl
          go_simp
          refine H_take (i := 9) (v := ?_) rfl (by as_aux_lemma => kernel_rfl) (by as_aux_lemma => kernel_rfl) (by as_aux_lemma => kernel_rfl) (fun _ _ _ h => h) (by rfl) hS ?_ ?_
          rotate_left
          · intro w' hw'; go_simp; with_reducible rfl
          go_simp
          refine H_take (i := 10) (v := ?_) rfl (by as_aux_lemma => kernel_rfl) (by as_aux_lemma => kernel_rfl) (by as_aux_lemma => kernel_rfl) (fun _ _ _ h => h) (by rfl) hS ?_ ?_
          rotate_left
          · intro w' hw'; go_simp; with_reducible rfl
          go_simp
          refine H_take (i := 11) (v := ?_) rfl (by as_aux_lemma => kernel_rfl) (by as_aux_lemma => kernel_rfl) (by as_aux_lemma => kernel_rfl) (fun _ _ _ h => h) (by rfl) hS ?_ ?_
          rotate_left
          · intro w' hw'; go_simp; with_reducible rfl
          go_simp
          refine H_take (i := 12) (v := ?_) rfl (by as_aux_lemma => kernel_rfl) (by as_aux_lemma => kernel_rfl) (by as_aux_lemma => kernel_rfl) (fun _ _ _ h => h) (by rfl) hS ?_ ?_
          rotate_left
          · intro w' hw'; go_simp; with_reducible rfl
          go_simp
          refine H_take (i := 13) (v := ?_) rfl (by as_aux_lemma => kernel_rfl) (by as_aux_lemma => kernel_rfl) (by as_aux_lemma => kernel_rfl) (fun _ _ _ h => h) (by rfl) hS ?_ ?_
          rotate_left
          · intro w' hw'; go_simp; with_reducible rfl
          go_simp
          refine H_take (i := 14) (v := ?_) rfl (by as_aux_lemma => kernel_rfl) (by as_aux_lemma => kernel_rfl) (by as_aux_lemma => kernel_rfl) (fun _ _ _ h => h) (by rfl) hS ?_ ?_
          rotate_left
          · intro w' hw'; go_simp; with_reducible rfl
          go_simp
          refine H_one (i := 15) (by as_aux_lemma => kernel_rfl) rfl (by rfl) ?_
          go_simp
          refine HHS.out.mono ?_
          rintro e w5 ⟨rfl, hb5⟩
          have hS5 : Below wr.heap.size wr w5 := hS.trans hb5
          refine ⟨hS5, ?_⟩
          go_simp
          refine H_take (i := 16) (v := ?_) rfl (by as_aux_lemma => kernel_rfl) (by as_aux_lemma => kernel_rfl) (by as_aux_lemma => kernel_rfl) (fun _ _ _ h => h) (by rfl) hS5 ?_ ?_
          rotate_left
          · intro w' hw'; go_simp; with_reducible rfl
          go_simp
          refine H_take (i := 17) (v := ?_) rfl (by as_aux_lemma => kernel_rfl) (by as_aux_lemma => kernel_rfl) (by as_aux_lemma => kernel_rfl) (fun _ _ _ h => h) (by rfl) hS5 ?_ ?_
          rotate_left
          · intro w' hw'; go_simp; with_reducible rfl
          go_simp
          refine H_take (i := 18) (v := ?_) rfl (by as_aux_lemma => kernel_rfl) (by as_aux_lemma => kernel_rfl) (by as_aux_lemma => kernel_rfl) (fun _ _ _ h => h) (by rfl) hS5 ?_ ?_
          rotate_left
          · intro w' hw'; go_simp; with_reducible rfl
          go_simp
          refine H_take (i := 19) (v := ?_) rfl (by as_aux_lemma => kernel_rfl) (by as_aux_lemma => kernel_rfl) (by as_aux_lemma => kernel_rfl) (fun _ _ _ h => h) (by rfl) hS5 ?_ ?_
          rotate_left
          · intro w' hw'; go_simp; with_reducible rfl
          go_simp
          refine H_take (i := 20) (v := ?_) rfl (by as_aux_lemma => kernel_rfl) (by as_aux_lemma => kernel_rfl) (by as_aux_lemma => kernel_rfl) (fun _ _ _ h => h) (by rfl) hS5 ?_ ?_
          rotate_left
          · intro w' hw'; go_simp; with_reducible rfl
          go_simp
          refine H_take (i := 21) (v := ?_) rfl (by as_aux_lemma => kernel_rfl) (by as_aux_lemma => kernel_rfl) (by as_aux_lemma => kernel_rfl) (fun _ _ _ h => h) (by rfl) hS5 ?_ ?_
          rotate_left
          · intro w' hw'; go_simp; with_reducible rfl
          go_simp
          refine H_take (i := 22) (v := ?_) rfl (by as_aux_lemma => kernel_rfl) (by as_aux_lemma => kernel_rfl) (by as_aux_lemma => kernel_rfl) (fun _ _ _ h => h) (by rfl) hS5 ?_ ?_
          rotate_left
          · intro w' hw'; go_simp; with_reducible rfl
          go_simp
          refine H_take (i := 23) (v := ?_) rfl (by as_aux_lemma => kernel_rfl) (by as_aux_lemma => kernel_rfl) (by as_aux_lemma => kernel_rfl) (fun _ _ _ h => h) (by rfl) hS5 ?_ ?_
          rotate_left
          · intro w' hw'; go_simp; with_reducible rfl
          go_simp
          refine H_take (i := 24) (v := ?_) rfl (by as_aux_lemma => kernel_rfl) (by as_aux_lemma => kernel_rfl) (by as_aux_lemma => kernel_rfl) (fun _ _ _ h => h) (by rfl) hS5 ?_ ?_
          rotate_left
          · intro w' hw'; go_simp; with_reducible rfl
          go_simp
          refine H_take (i := 25) (v := ?_) rfl (by as_aux_lemma => kernel_rfl) (by as_aux_lemma => kernel_rfl) (by as_aux_lemma => kernel_rfl) (fun _ _ _ h => h) (by rfl) hS5 ?_ ?_
          rotate_left
          · intro w' hw'; go_simp; with_reducible rfl
          go_simp
          refine H_take (i := 26) (v := ?_) rfl (by as_aux_lemma => kernel_rfl) (by as_aux_lemma => kernel_rfl) (by as_aux_lemma => kernel_rfl) (fun _ _ _ h => h) (by rfl) hS5 ?_ ?_
          rotate_left
          · intro w' hw'; go_simp; with_reducible rfl
          go_simp
          refine H_take (i := 27) (v := ?_) rfl (by as_aux_lemma => kernel_rfl) (by as_aux_lemma => kernel_rfl) (by as_aux_lemma => kernel_rfl) (fun _ _ _ h => h) (by rfl) hS5 ?_ ?_
          rotate_left
          · intro w' hw'; go_simp; with_reducible rfl
          go_simp
          refine H_take (i := 28) (v := ?_) rfl (by as_aux_lemma => kernel_rfl) (by as_aux_lemma => kernel_rfl) (by as_aux_lemma => kernel_rfl) (fun _ _ _ h => h) (by rfl) hS5 ?_ ?_
          rotate_left
          · intro w' hw'; go_simp; with_reducible rfl
          go_simp
          refine H_take (i := 29) (v := ?_) rfl (by as_aux_lemma => kernel_rfl) (by as_aux_lemma => kernel_rfl) (by as_aux_lemma => kernel_rfl) (fun _ _ _ h => h) (by rfl) hS5 ?_ ?_
          rotate_left
          · intro w' hw'; go_simp; with_reducible rfl
          go_simp
          refine wpAnyH_done (by as_aux_lemma => kernel_rfl) ?_ _
          have HS5 := Lib.hid hS5
          clear r0 r1 r2 r3 r4 r5 r6 hS hS5 hb5
          go_wp2_with fail
          refine (HRM.out w5 HS5.out).mono ?_
          rintro e w6 ⟨rfl, hl6⟩
          have HL6 := Lib.hid hl6
          clear hl6
          go_wp2_with fail
          go_roundg (gk - 1)
          case measure => omega
          case rel =>
            refine ⟨hh, dd, by have := HE0.out; omega, ?_, ?_, ?_, HL6.out⟩
            · rw [show gk - 1 = n' by have := HN'.out; omega]; exact HE1.out
            · rw [HFI.out]; have h1 := HE2.out; rw [HFS.out] at h1; simp only [List.length_cons] at h1; omega
            · rw [HFI.out]; intro x hx; exact HE3.out x (by rw [HFS.out]; exact List.mem_cons_of_mem _ hx)
        · have hle2 : decide (f.last ≤ mi) = false := decide_eq_false hle
          have hq0 : q = false := by rw [hq, hle2]; rfl
          have HE1 : Hid (h1 = h' ∧ d1 = d') := Lib.hid (by rw [hq0, if_neg (by decide)] at e1; cases e1; exact ⟨rfl, rfl⟩)
          clear hq hq0 e1 hhas hle
          obtain ⟨f0, f1, f2, f3, f4⟩ := f
          unfold fiAgg at HHS
          simp only at HHS r2 r3 r4 r5 r6 hle2
          go_wp2_with fail
          refine wp_region_held (S := fun w' => Below wr.heap.size wr w') (by kernel_rfl) ?_
          refine H_take (i := 0) (v := ?_) rfl (by as_aux_lemma => kernel_rfl) (by as_aux_lemma => kernel_rfl) (by as_aux_lemma => kernel_rfl) (fun _ _ _ h => h) (by rfl) hS ?_ ?_
          rotate_left
          · intro w' hw'; go_simp; with_reducible rfl
          go_simp
          refine H_take (i := 1) (v := ?_) rfl (by as_aux_lemma => kernel_rfl) (by as_aux_lemma => kernel_rfl) (by as_aux_lemma => kernel_rfl) (fun _ _ _ h => h) (by rfl) hS ?_ ?_
          rotate_left
          · intro w' hw'; go_simp; with_reducible rfl
          go_simp
          refine H_take (i := 2) (v := ?_) rfl (by as_aux_lemma => kernel_rfl) (by as_aux_lemma => kernel_rfl) (by as_aux_lemma => kernel_rfl) (fun _ _ _ h => h) (by rfl) hS ?_ ?_
          rotate_left
          · intro w' hw'; go_simp; with_reducible rfl
          go_simp
          refine H_take (i := 3) (v := ?_) rfl (by as_aux_lemma => kernel_rfl) (by as_aux_lemma => kernel_rfl) (by as_aux_lemma => kernel_rfl) (fun _ _ _ h => h) (by rfl) hS ?_ ?_
          rotate_left
          · intro w' hw'; go_simp; with_reducible rfl
          go_simp
          refine H_take (i := 4) (v := ?_) rfl (by as_aux_lemma => kernel_rfl) (by as_aux_lemma => kernel_rfl) (by as_aux_lemma => kernel_rfl) (fun _ _ _ h => h) (by rfl) hS ?_ ?_
          rotate_left
          · intro w' hw'; go_simp; with_reducible rfl
          go_simp
          refine H_take (i := 5) (v := ?_) rfl (by as_aux_lemma => kernel_rfl) (by as_aux_lemma => kernel_rfl) (by as_aux_lemma => kernel_rfl) (fun _ _ _ h => h) (by rfl) hS ?_ ?_
          rotate_left
          · intro w' hw'; go_simp; with_reducible rfl
          go_simp
          refine H_take (i := 6) (v := ?_) rfl (by as_aux_lemma => kernel_rfl) (by as_aux_lemma => kernel_rfl) (by as_aux_lemma => kernel_rfl) (fun _ _ _ h => h) (by rfl) hS ?_ ?_
          rotate_left
          · intro w' hw'; go_simp; with_reducible rfl
          go_simp
          refine H_take (i := 7) (v := ?_) rfl (by as_aux_lemma => kernel_rfl) (by as_aux_lemma => kernel_rfl) (by as_aux_lemma => kernel_rfl) (fun _ _ _ h => h) (by rfl) hS ?_ ?_
          rotate_left
          · intro w' hw'; go_simp; with_reducible rfl
          go_simp
          refine H_take (i := 8) (v := ?_) rfl (by as_aux_lemma => kernel_rfl) (by as_aux_lemma => kernel_rfl) (by as_aux_lemma => kernel_rfl) (fun _ _ _ h => h) (by rfl) hS ?_ ?_
          rotate_left
          · intro w' hw'; go_simp; with_reducible rfl
          go_simp
          refine H_take (i := 9) (v := ?_) rfl (by as_aux_lemma => kernel_rfl) (by as_aux_lemma => kernel_rfl) (by as_aux_lemma => kernel_rfl) (fun _ _ _ h => h) (by rfl) hS ?_ ?_
          rotate_left
          · intro w' hw'; go_simp; with_reducible rfl
          go_simp
          refine H_take (i := 10) (v := ?_) rfl (by as_aux_lemma => kernel_rfl) (by as_aux_lemma => kernel_rfl) (by as_aux_lemma => kernel_rfl) (fun _ _ _ h => h) (by rfl) hS ?_ ?_
          rotate_left
          · intro w' hw'; go_simp; with_reducible rfl
          go_simp
          refine H_take (i := 11) (v := ?_) rfl (by as_aux_lemma => kernel_rfl) (by as_aux_lemma => kernel_rfl) (by as_aux_lemma => kernel_rfl) (fun _ _ _ h => h) (by rfl) hS ?_ ?_
          rotate_left
          · intro w' hw'; go_simp; with_reducible rfl
          go_simp
          refine H_take (i := 12) (v := ?_) rfl (by as_aux_lemma => kernel_rfl) (by as_aux_lemma => kernel_rfl) (by as_aux_lemma => kernel_rfl) (fun _ _ _ h => h) (by rfl) hS ?_ ?_
          rotate_left
          · intro w' hw'; go_simp; with_reducible rfl
          go_simp
          refine H_take (i := 13) (v := ?_) rfl (by as_aux_lemma => kernel_rfl) (by as_aux_lemma => kernel_rfl) (by as_aux_lemma => kernel_rfl) (fun _ _ _ h => h) (by rfl) hS ?_ ?_
          rotate_left
          · intro w' hw'; go_simp; with_reducible rfl
          go_simp
          refine H_take (i := 14) (v := ?_) rfl (by as_aux_lemma => kernel_rfl) (by as_aux_lemma => kernel_rfl) (by as_aux_lemma => kernel_rfl) (fun _ _ _ h => h) (by rfl) hS ?_ ?_
          rotate_left
          · intro w' hw'; go_simp; with_reducible rfl
          go_simp
          refine H_one (i := 15) (by as_aux_lemma => kernel_rfl) rfl (by rfl) ?_
          go_simp
          refine HHS.out.mono ?_
          rintro e w5 ⟨rfl, hb5⟩
          have hS5 : Below wr.heap.size wr w5 := hS.trans hb5
          refine ⟨hS5, ?_⟩
          go_simp
          refine H_take (i := 16) (v := ?_) rfl (by as_aux_lemma => kernel_rfl) (by as_aux_lemma => kernel_rfl) (by as_aux_lemma => kernel_rfl) (fun _ _ _ h => h) (by rfl) hS5 ?_ ?_
          rotate_left
          · intro w' hw'; go_simp; with_reducible rfl
          go_simp
          refine H_take (i := 17) (v := ?_) rfl (by as_aux_lemma => kernel_rfl) (by as_aux_lemma => kernel_rfl) (by as_aux_lemma => kernel_rfl) (fun _ _ _ h => h) (by rfl) hS5 ?_ ?_
          rotate_left
          · intro w' hw'; go_simp; with_reducible rfl
          go_simp
          refine H_take (i := 18) (v := ?_) rfl (by as_aux_lemma => kernel_rfl) (by as_aux_lemma => kernel_rfl) (by as_aux_lemma => kernel_rfl) (fun _ _ _ h => h) (by rfl) hS5 ?_ ?_
          rotate_left
          · intro w' hw'; go_simp; with_reducible rfl
          go_simp
          refine H_take (i := 19) (v := ?_) rfl (by as_aux_lemma => kernel_rfl) (by as_aux_lemma => kernel_rfl) (by as_aux_lemma => kernel_rfl) (fun _ _ _ h => h) (by rfl) hS5 ?_ ?_
          rotate_left
          · intro w' hw'; go_simp; with_reducible rfl
          go_simp
          refine H_take (i := 20) (v := ?_) rfl (by as_aux_lemma => kernel_rfl) (by as_aux_lemma => kernel_rfl) (by as_aux_lemma => kernel_rfl) (fun _ _ _ h => h) (by rfl) hS5 ?_ ?_
          rotate_left
          · intro w' hw'; go_simp; with_reducible rfl
          go_simp
          refine H_take (i := 21) (v := ?_) rfl (by as_aux_lemma => kernel_rfl) (by as_aux_lemma => kernel_rfl) (by as_aux_lemma => kernel_rfl) (fun _ _ _ h => h) (by rfl) hS5 ?_ ?_
          rotate_left
          · intro w' hw'; go_simp; with_reducible rfl
          go_simp
          refine H_take (i := 22) (v := ?_) rfl (by as_aux_lemma => kernel_rfl) (by as_aux_lemma => kernel_rfl) (by as_aux_lemma => kernel_rfl) (fun _ _ _ h => h) (by rfl) hS5 ?_ ?_
          rotate_left
          · intro w' hw'; go_simp; with_reducible rfl
          go_simp
          refine H_take (i := 23) (v := ?_) rfl (by as_aux_lemma => kernel_rfl) (by as_aux_lemma => kernel_rfl) (by as_aux_lemma => kernel_rfl) (fun _ _ _ h => h) (by rfl) hS5 ?_ ?_
          rotate_left
          · intro w' hw'; go_simp; with_reducible rfl
          go_simp
          refine H_take (i := 24) (v := ?_) rfl (by as_aux_lemma => kernel_rfl) (by as_aux_lemma => kernel_rfl) (by as_aux_lemma => kernel_rfl) (fun _ _ _ h => h) (by rfl) hS5 ?_ ?_
          rotate_left
          · intro w' hw'; go_simp; with_reducible rfl
          go_simp
          refine H_take (i := 25) (v := ?_) rfl (by as_aux_lemma => kernel_rfl) (by as_aux_lemma => kernel_rfl) (by as_aux_lemma => kernel_rfl) (fun _ _ _ h => h) (by rfl) hS5 ?_ ?_
          rotate_left
          · intro w' hw'; go_simp; with_reducible rfl
          go_simp
          refine H_take (i := 26) (v := ?_) rfl (by as_aux_lemma => kernel_rfl) (by as_aux_lemma => kernel_rfl) (by as_aux_lemma => kernel_rfl) (fun _ _ _ h => h) (by rfl) hS5 ?_ ?_
          rotate_left
          · intro w' hw'; go_simp; with_reducible rfl
          go_simp
          refine H_take (i := 27) (v := ?_) rfl (by as_aux_lemma => kernel_rfl) (by as_aux_lemma => kernel_rfl) (by as_aux_lemma => kernel_rfl) (fun _ _ _ h => h) (by rfl) hS5 ?_ ?_
          rotate_left
          · intro w' hw'; go_simp; with_reducible rfl
          go_simp
          refine H_take (i := 28) (v := ?_) rfl (by as_aux_lemma => kernel_rfl) (by as_aux_lemma => kernel_rfl) (by as_aux_lemma => kernel_rfl) (fun _ _ _ h => h) (by rfl) hS5 ?_ ?_
          rotate_left
          · intro w' hw'; go_simp; with_reducible rfl
          go_simp
          refine H_take (i := 29) (v := ?_) rfl (by as_aux_lemma => kernel_rfl) (by as_aux_lemma => kernel_rfl) (by as_aux_lemma => kernel_rfl) (fun _ _ _ h => h) (by rfl) hS5 ?_ ?_
          rotate_left
          · intro w' hw'; go_simp; with_reducible rfl
          go_simp
          refine wpAnyH_done (by as_aux_lemma => kernel_rfl) ?_ _
          have HS5 := Lib.hid hS5
          clear r0 r1 r2 r3 r4 r5 r6 hS hS5 hb5
          go_wp2_with fail
          go_ret
          refine ⟨rfl, HL1.out.stay ?_⟩
          rw [HE1.out.1, HE1.out.2]
          exact HE4.out.next HS5.out
end Go.Proofs.YtamgjlegcegmeaaGreatDoor.M

/- Part: SegAw0. -/
namespace Go.Proofs.YtamgjlegcegmeaaGreatDoor.M
open Go.RowKit Go.Maps
open D (Fl Dk)

deriving instance DecidableEq for En
deriving instance DecidableEq for Rw
deriving instance DecidableEq for Fi
deriving instance DecidableEq for Hd

def g1 : En := ⟨1, 1, 0, []⟩
def g2 : En := ⟨2, 1, 0, []⟩
def g3 : En := ⟨3, 2, 0, []⟩
def g4 : En := ⟨3, 1, 0, []⟩
def fA : Fi := ⟨1, 3, 42, 0, true⟩
def k0 : Hd := ⟨0, 0, [], [], 0⟩
def k1 : Hd := ⟨0, 0, [⟨g1, 0⟩, ⟨g2, 14⟩], [⟨1, 2, 28, 0, true⟩], 0⟩
def k2 : Hd := ⟨0, 0, [⟨g1, 0⟩, ⟨g2, 14⟩], [⟨1, 2, 28, 0, false⟩], 2⟩
def k3 : Hd := ⟨0, 0, [⟨g1, 0⟩, ⟨g2, 14⟩, ⟨g3, 28⟩], [fA], 2⟩
def k3' : Hd := ⟨0, 0, [⟨g1, 0⟩, ⟨g2, 14⟩, ⟨g3, 28⟩], [⟨1, 1, 14, 0, true⟩], 2⟩
def k4 : Hd := ⟨0, 0, [⟨g1, 0⟩], [⟨1, 1, 14, 0, true⟩], 1⟩
def k5 : Hd := ⟨1, 1, [], [⟨1, 1, 14, 0, true⟩], 1⟩
def k6 : Hd := ⟨1, 1, [], [], 1⟩
def j0 : Dk := fresh 1000
def j1 : Dk := (appendE 40 k0 j0 [g1, g2]).2.2
def j2 : Dk := (syncE k1 j1).2.2
def j3 : Dk := (appendE 40 k2 j2 [g3]).2.2
def j4 : Dk := (cutE k3 j3 0 fA 14 1).2.2
def j6 : Dk := (dropE 1 1 k5 j4).2.2

theorem triple {r : Int × Hd × Dk} {n : Int} {h : Hd} (h1 : r.1 = n ∧ r.2.1 = h) : r = (n, h, r.2.2) := by
  obtain ⟨a, b, c⟩ := r
  obtain ⟨rfl, rfl⟩ := h1
  rfl

theorem aw_1 : appendE 40 k0 j0 [g1, g2] = (0, k1, j1) := triple (by decide +kernel)
theorem aw_2 : syncE k1 j1 = (0, k2, j2) := triple (by decide +kernel)
theorem aw_3 : appendE 40 k2 j2 [g3] = (0, k3, j3) := triple (by decide +kernel)
theorem aw_s : stripE (fromIx 2) k3.files k3.files.length k3 j3 = (0, k3, j3) := rfl
theorem aw_4 : cutE k3 j3 0 fA 14 (2 - 1) = (0, k3', j4) := triple (by decide +kernel)
theorem aw_f : forgetE k3' 2 = k4 := by decide +kernel
theorem aw_5 : appendE 40 k4 j4 [g4] = (2, k4, j4) := rfl
theorem aw_b : begun k4 1 1 = k5 := by decide +kernel
theorem aw_6 : dropE 1 k4.files.length (begun k4 1 1) j4 = (0, k6, j6) := by rw [aw_b]; exact triple (by decide +kernel)
theorem aw_u : D.used j0.fs ≤ 1000 ∧ D.used j2.fs ≤ 1000 ∧ D.used j4.fs ≤ 1000 := by decide +kernel
theorem aw_l : (sgRow g1).length = 14 ∧ (sgRow g2).length = 14 ∧ (sgRow g3).length = 14 ∧ (sgRow g4).length = 14 := by decide +kernel

/-- Bounds, by the log's own numbers. -/
def okB (n s : Nat) (h : Hd) : Bool := decide (h.rows.length ≤ n) && decide (h.files.length ≤ n) && h.files.all (fun f => decide ((0 ≤ f.first ∧ f.first < 10000000000) ∧ (0 ≤ f.size ∧ f.size ≤ (s : Int)))) && decide ((0 ≤ h.mi ∧ h.mi < 10000000000) ∧ (0 ≤ h.mt ∧ h.mt < 10000000000)) &&
  h.rows.all (fun r => decide ((0 ≤ r.e.idx ∧ r.e.idx < 10000000000) ∧ (0 ≤ r.e.term ∧ r.e.term < 10000000000) ∧ (0 ≤ r.e.kind ∧ r.e.kind ≤ 255) ∧ r.e.b.length ≤ 1048576))

theorem okB_in {n s : Nat} {h : Hd} (hb : okB n s h = true) : HdB n s h := by
  unfold okB at hb
  simp only [Bool.and_eq_true, decide_eq_true_eq, List.all_eq_true] at hb
  exact ⟨hb.1.1.1.1, hb.1.1.1.2, hb.1.1.2, hb.1.2, hb.2⟩

theorem bd_0 : HdB 0 0 k0 := okB_in (by decide)
theorem bd_1 : HdB 3 100 k1 := okB_in (by decide)
theorem bd_2 : HdB 3 100 k2 := okB_in (by decide)
theorem bd_3 : HdB 3 100 k3 := okB_in (by decide)
theorem bd_4 : HdB 3 100 k4 := okB_in (by decide)
theorem bd_6 : HdB 3 100 k6 := okB_in (by decide)

theorem seq_of {h : Hd} (hb : (List.range h.rows.length).all (fun i => decide ((h.rows[i]?).map (·.e.idx) = some (h.mi + 1 + (i : Int)))) = true) : h.Seq := fun i hi => by
  have h1 := List.all_eq_true.1 hb i (List.mem_range.2 hi)
  simp only [decide_eq_true_eq, List.getElem?_eq_getElem hi, Option.map_some, Option.some.injEq] at h1
  exact h1

theorem sq_3 : k3.Seq := seq_of (by decide)
theorem sq_4 : k4.Seq := seq_of (by decide)
theorem sq_6 : k6.Seq := seq_of (by decide)
end Go.Proofs.YtamgjlegcegmeaaGreatDoor.M

/- Part: SegAwk. -/
namespace Go.Proofs.YtamgjlegcegmeaaGreatDoor.M
open Go.RowKit Go.Maps
open D (Fl Dk)

theorem RepEs.one {W : World} {g : Nat} {a : En} {t : TypeId} (h : W.heap[g]? = some (.cells #[.int .i64 a.idx, .int .i64 a.term, .int .i64 a.kind, .slice none 0 0] t)) (hb : a.b = []) (hi : enInt a) : RepEs W (fun k => k = g) [a] (.slice (some ⟨g, 0, none⟩) 1 1) :=
  .inr ⟨g, 0, 1, rfl, rfl, Nat.le_refl _, by omega, fun i hi2 => by
    obtain rfl : i = 0 := by simpa using hi2
    exact ⟨hi, cell_of_row _ _ 0 _ _ _ h, cell_of_row _ _ 1 _ _ _ h, cell_of_row _ _ 2 _ _ _ h, _, cell_of_row _ _ 3 _ _ _ h, by rw [show ([a] : List En)[0].b = [] from hb]; exact .inl ⟨rfl, Bare.nil⟩⟩⟩

theorem RepEs.two {W : World} {g : Nat} {a c : En} {t : TypeId} (h : W.heap[g]? = some (.cells #[.int .i64 a.idx, .int .i64 a.term, .int .i64 a.kind, .slice none 0 0, .int .i64 c.idx, .int .i64 c.term, .int .i64 c.kind, .slice none 0 0] t)) (hb : a.b = []) (hc : c.b = []) (hi : enInt a) (hj : enInt c) : RepEs W (fun k => k = g) [a, c] (.slice (some ⟨g, 0, none⟩) 2 2) :=
  .inr ⟨g, 0, 2, rfl, rfl, Nat.le_refl _, by omega, fun i hi2 => by
    rcases (show i = 0 ∨ i = 1 by simp at hi2; omega) with rfl | rfl
    · exact ⟨hi, cell_of_row _ _ 0 _ _ _ h, cell_of_row _ _ 1 _ _ _ h, cell_of_row _ _ 2 _ _ _ h, _, cell_of_row _ _ 3 _ _ _ h, by rw [show ([a, c] : List En)[0].b = [] from hb]; exact .inl ⟨rfl, Bare.nil⟩⟩
    · exact ⟨hj, cell_of_row _ _ 4 _ _ _ h, cell_of_row _ _ 5 _ _ _ h, cell_of_row _ _ 6 _ _ _ h, _, cell_of_row _ _ 7 _ _ _ h, by rw [show ([a, c] : List En)[1].b = [] from hc]; exact .inl ⟨rfl, Bare.nil⟩⟩⟩

set_option maxRecDepth 20000 in
theorem entry5_any (i t : Int) (w : World) : Calls Tryz.prog 14 #[.int .i64 i, .int .i64 t] w fun e w' => e = .returned (.agg #[.int .i64 i, .int .i64 t, .int .i64 0, .slice none 0 0]) ∧ Below w.heap.size w w' := by
  go_enter Tryz.func14, Tryz.ntmps14
  go_wp2_with fail
  refine bodyPost_ret (v := .agg #[.int .i64 i, .int .i64 t, .int .i64 0, .slice none 0 0]) (by simp [results, Tryz.results14, go_sem]) rfl ?_
  exact ⟨rfl, by first | exact below_alloc _ _ | exact ((((below_alloc _ _).setCell (by simp) _).setCell (by simp) _).setCell (by simp) _).setCell (by simp) _⟩

def NoK : Nat → Obj → Prop := fun _ _ => False

theorem newDisk5_any (n : Int) (w : World) (h0 : 0 ≤ n) (h1 : n ≤ 9223372036854775807) :
    Calls Tryz.prog 5 #[.int .i64 n] w fun e w' => ∃ gd X, e = .returned (.tuple #[.pointer (some ⟨gd, 0, none⟩), .int .i64 0]) ∧ DS w X gd (fresh n) w' := by
  refine (New_any n w h0).mono ?_
  rintro e w1 ⟨rfl, hb1, hz1, hd1⟩
  exact ⟨w.heap.size + 1, _, rfl, ⟨hb1, fun k hk => hk.1, ⟨hd1, fun k hk => by omega⟩, fresh_well h0 h1⟩⟩

set_option maxRecDepth 20000 in
set_option maxHeartbeats 6400000 in
theorem awake5_any (w : World) (hT : Hid (Tab w)) (hP : Hid (Pow10 w)) : Calls Tryz.prog 4 #[] w fun e w' => e = .returned (.bool true) ∧ Below w.heap.size w w' := by
  go_enter Tryz.func4, Tryz.ntmps4
  go_wp2_with fail
  refine (newDisk5_any 1000 w (by omega) (by omega)).mono ?_
  rintro e w1 ⟨gd, Xd1, rfl, h1⟩
  have H1 : Hid (DS w Xd1 gd j0 w1) := Lib.hid h1
  clear h1
  go_wp2_with fail
  refine (Open_empty NoK w w1 Xd1 gd j0 H1.out rfl (fun k o h => h.elim) 0 0 (by omega) 40 (by omega) hP).mono ?_
  rintro e w2 ⟨g, X2, Xd2, rfl, h2⟩
  have H2 : Hid (LS NoK w X2 Xd2 g gd 40 k0 j0 w2) := Lib.hid h2
  clear h2
  go_wp2_with fail
  refine (entry5_any 1 1 w2).mono ?_
  rintro e w2a ⟨rfl, hba⟩
  have H2 := Lib.hid (H2.out.next hba)
  clear hba
  go_wp2_with fail
  refine (entry5_any 2 1 _).mono ?_
  rintro e w2' ⟨rfl, hba⟩
  have H2 := Lib.hid (H2.out.next hba)
  clear hba
  go_wp2_with fail
  obtain ⟨W3, hW3⟩ : ∃ W3, W3 = w2'.alloc (.cells #[.int .i64 1, .int .i64 1, .int .i64 0, .slice none 0 0, .int .i64 2, .int .i64 1, .int .i64 0, .slice none 0 0] 36) := ⟨_, rfl⟩
  obtain ⟨gb, hgb⟩ : ∃ gb, gb = w2'.heap.size := ⟨_, rfl⟩
  have hb3 : Below w2'.heap.size w2' W3 := by rw [hW3]; exact below_alloc _ _
  have hx3 : W3.heap[gb]? = some (.cells #[.int .i64 1, .int .i64 1, .int .i64 0, .slice none 0 0, .int .i64 2, .int .i64 1, .int .i64 0, .slice none 0 0] 36) := by rw [hW3, hgb]; exact heap_new _ _ _ rfl
  have HA3 : Hid (Calls Tryz.prog 7 #[.pointer (some ⟨g, 0, none⟩), .slice (some ⟨gb, 0, none⟩) 2 2] W3 fun x w' => x = .returned (.int .i64 0) ∧ ∃ X' Xd', LS NoK w X' Xd' g gd 40 k1 j1 w') := Lib.hid (by
    have := Append_any NoK w W3 X2 Xd2 g gd 40 k0 j0 [g1, g2] (.slice (some ⟨gb, 0, none⟩) 2 2) (fun k => k = gb) 0 0 (H2.out.next hb3) bd_0 (by decide) (by simp [aw_l.1, aw_l.2.1]) (RepEs.two hx3 rfl rfl (by unfold enInt g1; decide) (by unfold enInt g2; decide))
      (fun k hk => by
        subst hk
        exact ⟨lt_of_heap hx3, fun hx => by have := H2.out.lt hx; omega, fun hx => by have := H2.out.ds.lt _ hx; omega⟩) (by have := aw_u.1; simp [aw_l.1, aw_l.2.1]; omega) hT hP
    rw [aw_1] at this
    exact this)
  rw [← hW3, ← hgb]
  clear hW3 hgb hb3 hx3
  refine HA3.out.mono ?_
  rintro e w4 ⟨rfl, X4, Xd4, h4⟩
  have H4 := Lib.hid h4
  have HS4 := Lib.hid (Sync_any NoK w w4 X4 Xd4 g gd 40 k1 j1 h4 (bd_1.ok (by omega) (by omega)) hP)
  rw [aw_2] at HS4
  clear h4
  go_wp2_with fail
  refine HS4.out.mono ?_
  rintro e w5 ⟨rfl, Xd5, h5⟩
  have H5 : Hid (LS NoK w X4 Xd5 g gd 40 k2 j2 w5) := Lib.hid h5
  clear h5
  go_wp2_with fail
  refine (entry5_any 3 2 w5).mono ?_
  rintro e w5' ⟨rfl, hba⟩
  have H5 := Lib.hid (H5.out.next hba)
  clear hba
  go_wp2_with fail
  obtain ⟨W6, hW6⟩ : ∃ W6, W6 = w5'.alloc (.cells #[.int .i64 3, .int .i64 2, .int .i64 0, .slice none 0 0] 36) := ⟨_, rfl⟩
  obtain ⟨gc, hgc⟩ : ∃ gc, gc = w5'.heap.size := ⟨_, rfl⟩
  have hb6 : Below w5'.heap.size w5' W6 := by rw [hW6]; exact below_alloc _ _
  have hx6 : W6.heap[gc]? = some (.cells #[.int .i64 3, .int .i64 2, .int .i64 0, .slice none 0 0] 36) := by rw [hW6, hgc]; exact heap_new _ _ _ rfl
  have HA6 : Hid (Calls Tryz.prog 7 #[.pointer (some ⟨g, 0, none⟩), .slice (some ⟨gc, 0, none⟩) 1 1] W6 fun x w' => x = .returned (.int .i64 0) ∧ ∃ X' Xd', LS NoK w X' Xd' g gd 40 k3 j3 w') := Lib.hid (by
    have := Append_any NoK w W6 X4 Xd5 g gd 40 k2 j2 [g3] (.slice (some ⟨gc, 0, none⟩) 1 1) (fun k => k = gc) 3 100 (H5.out.next hb6) bd_2 (by decide) (by simp [aw_l.2.2.1]) (RepEs.one hx6 rfl (by unfold enInt g3; decide))
      (fun k hk => by
        subst hk
        exact ⟨lt_of_heap hx6, fun hx => by have := H5.out.lt hx; omega, fun hx => by have := H5.out.ds.lt _ hx; omega⟩) (by have := aw_u.2.1; simp [aw_l.2.2.1]; omega) hT hP
    rw [aw_3] at this
    exact this)
  rw [← hW6, ← hgc]
  clear hW6 hgc hb6 hx6
  refine HA6.out.mono ?_
  rintro e w7 ⟨rfl, X7, Xd7, h7⟩
  have HC7 := Lib.hid (cutFrom_cut NoK w w7 X7 Xd7 g gd 40 k3 j3 h7 (bd_3.ok (by omega) (by omega)) 2 (by decide) sq_3 hP k3 j3 aw_s rfl (by decide) (by decide) 0 fA rfl rfl (by decide) (by decide) 14 (by decide) (by omega) k3' j4 aw_4 (by decide) rfl)
  rw [aw_f] at HC7
  clear h7
  go_wp2_with fail
  refine HC7.out.mono ?_
  rintro e w8 ⟨rfl, Xd8, h8⟩
  have H8 := Lib.hid h8
  clear h8
  go_wp2_with fail
  refine (entry5_any 3 1 w8).mono ?_
  rintro e w8' ⟨rfl, hba⟩
  have H8 := Lib.hid (H8.out.next hba)
  clear hba
  go_wp2_with fail
  obtain ⟨W9, hW9⟩ : ∃ W9, W9 = w8'.alloc (.cells #[.int .i64 3, .int .i64 1, .int .i64 0, .slice none 0 0] 36) := ⟨_, rfl⟩
  obtain ⟨gc, hgc⟩ : ∃ gc, gc = w8'.heap.size := ⟨_, rfl⟩
  have hb9 : Below w8'.heap.size w8' W9 := by rw [hW9]; exact below_alloc _ _
  have hx9 : W9.heap[gc]? = some (.cells #[.int .i64 3, .int .i64 1, .int .i64 0, .slice none 0 0] 36) := by rw [hW9, hgc]; exact heap_new _ _ _ rfl
  have HA9 : Hid (Calls Tryz.prog 7 #[.pointer (some ⟨g, 0, none⟩), .slice (some ⟨gc, 0, none⟩) 1 1] W9 fun x w' => x = .returned (.int .i64 2) ∧ ∃ X' Xd', LS NoK w X' Xd' g gd 40 k4 j4 w') := Lib.hid (by
    have := Append_any NoK w W9 X7 Xd8 g gd 40 k4 j4 [g4] (.slice (some ⟨gc, 0, none⟩) 1 1) (fun k => k = gc) 3 100 (H8.out.next hb9) bd_4 (by decide) (by simp [aw_l.2.2.2]) (RepEs.one hx9 rfl (by unfold enInt g4; decide))
      (fun k hk => by
        subst hk
        exact ⟨lt_of_heap hx9, fun hx => by have := H8.out.lt hx; omega, fun hx => by have := H8.out.ds.lt _ hx; omega⟩) (by have := aw_u.2.2; simp [aw_l.2.2.2]; omega) hT hP
    rw [aw_5] at this
    exact this)
  rw [← hW9, ← hgc]
  clear hW9 hgc hb9 hx9
  refine HA9.out.mono ?_
  rintro e w10 ⟨rfl, X10, Xd10, h10⟩
  have HD10 := Lib.hid (dropTo_ok NoK w w10 X10 Xd10 g gd 40 k4 j4 h10 (bd_4.ok (by omega) (by omega)) sq_4 1 1 (by omega) (by decide) hP k6 j6 aw_6)
  clear h10
  go_wp2_with fail
  refine HD10.out.mono ?_
  rintro e w11 ⟨rfl, h11⟩
  have H11 := Lib.hid h11
  clear h11
  go_wp2_with fail
  refine (LogAt_any X10 g gd 40 k6 1 w11 H11.out.lg (bd_6.ok (by omega) (by omega)) sq_6).mono ?_
  rintro e w12 ⟨v, rfl, hown⟩
  have he12 : entryAt k6 1 = (⟨0, 0, 0, []⟩, false) := by rfl
  rw [he12] at hown ⊢
  have H12 := Lib.hid (H11.out.next hown.1)
  obtain ⟨va, vc, hv⟩ := hown.slice
  subst hv
  unfold enAgg
  simp only [List.length_nil]
  clear hown he12
  go_wp2_with fail
  obtain ⟨W13, hW13⟩ : ∃ W13, W13 = w12.alloc (.cells #[.int .i64 0, .int .i64 0, .int .i64 0, .slice va 0 vc] 36) := ⟨_, rfl⟩
  have hb13 : Below w12.heap.size w12 W13 := by rw [hW13]; exact below_alloc _ _
  have H13 := Lib.hid (H12.out.next hb13)
  rw [← hW13]
  clear hW13 hb13
  refine (Term_any X10 g gd 40 k6 1 W13 H13.out.lg (bd_6.ok (by omega) (by omega)) sq_6).mono ?_
  rintro e w14 ⟨rfl, hb14⟩
  have ht14 : termAt k6 1 = (1, true) := rfl
  rw [ht14]
  have H14 := Lib.hid (H13.out.next hb14)
  clear hb14 ht14
  go_wp2_with fail
  refine (LogLast_any X10 g gd 40 k6 w14 H14.out.lg).mono ?_
  rintro e w15 ⟨rfl, hb15⟩
  have hl15 : k6.last = (1, 1) := rfl
  rw [hl15]
  have H15 := Lib.hid (H14.out.next hb15)
  clear hb15 hl15
  go_wp2_with fail
  go_ret
  exact ⟨rfl, H15.out.below⟩
end Go.Proofs.YtamgjlegcegmeaaGreatDoor.M

/- Part: SegDc1. -/
namespace Go.Proofs.YtamgjlegcegmeaaGreatDoor.M
open Go.RowKit

theorem dg_front5 : ∀ (k n : Nat), dg (k + 1) n = UInt8.ofNat (48 + n / 10 ^ k % 10) :: dg k n
  | 0, n => by simp [dg]
  | k + 1, n => by
    rw [dg, dg_front5 k (n / 10), List.cons_append]
    have e : n / 10 / 10 ^ k = n / 10 ^ (k + 1) := by rw [Nat.div_div_eq_div_mul, Nat.pow_succ, Nat.mul_comm]
    rw [e]
    rfl

theorem digit_text5 : ∀ d : Fin 10, (⟨#[48, 49, 50, 51, 52, 53, 54, 55, 56, 57]⟩ : ByteArray).extract d.1 (d.1 + 1) = ⟨#[UInt8.ofNat (48 + d.1)]⟩ := by decide +kernel

theorem text_cons5 (c : UInt8) (l : List UInt8) : (⟨#[c]⟩ : ByteArray) ++ (⟨l.toArray⟩ : ByteArray) = ⟨(c :: l).toArray⟩ := by
  apply ByteArray.ext
  simp [ByteArray.data_append]

end Go.Proofs.YtamgjlegcegmeaaGreatDoor.M

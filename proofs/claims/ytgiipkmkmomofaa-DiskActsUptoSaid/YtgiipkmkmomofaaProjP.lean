/- The program's disk: Crash. -/
import Derived.Test.YtgiipkmkmomofaaProjK
namespace Go.Proofs.Ytgiipkmkmomofaa.M
open Go.RowKit Go.Maps
open D (Fl Dk)

/-- What a crash makes of a file. -/
def crashG (k : Option Int) (f : Fl) : Fl := { f with b := f.b.take (D.stays f k), safe := D.stays f k }

/-- The first so many files crashed, the others as they are. -/
def crashTo (fs : List Fl) (ks : List Int) : Nat → List Fl
  | 0 => fs
  | i + 1 => (crashTo fs ks i).modify i (crashG ks[i]?)

theorem crashTo_get (fs : List Fl) (ks : List Int) : ∀ (n j : Nat), (crashTo fs ks n)[j]? = if j < n then fs[j]?.map (crashG ks[j]?) else fs[j]?
  | 0, j => by simp [crashTo]
  | n + 1, j => by
    unfold crashTo
    rw [List.getElem?_modify, crashTo_get fs ks n j]
    by_cases e : n = j
    · subst e
      simp
    · rw [show (if j < n + 1 then fs[j]?.map (crashG ks[j]?) else fs[j]?) = if j < n then fs[j]?.map (crashG ks[j]?) else fs[j]? by
        by_cases h : j < n
        · rw [if_pos h, if_pos (by omega)]
        · rw [if_neg h, if_neg (by omega)]]
      simp [e]

theorem crashFs_getq : ∀ (fs : List Fl) (ks : List Int) (j : Nat), (D.crashFs fs ks)[j]? = fs[j]?.map (crashG ks[j]?)
  | [], _, j => by simp [D.crashFs]
  | f :: r, ks, 0 => by cases ks <;> simp [D.crashFs, crashG]
  | f :: r, ks, j + 1 => by
    have := crashFs_getq r ks.tail j
    simp only [D.crashFs, List.getElem?_cons_succ]
    rw [this]
    cases ks <;> simp

theorem crashTo_all (fs : List Fl) (ks : List Int) : crashTo fs ks fs.length = D.crashFs fs ks := by
  apply List.ext_getElem?
  intro j
  rw [crashTo_get, crashFs_getq]
  by_cases h : j < fs.length
  · rw [if_pos h]
  · rw [if_neg h, List.getElem?_eq_none (by omega)]; rfl

theorem crashTo_names (fs : List Fl) (ks : List Int) : ∀ n, (crashTo fs ks n).map (·.nm) = fs.map (·.nm)
  | 0 => rfl
  | n + 1 => (D.names_modify (crashTo fs ks n) n (crashG ks[n]?) fun _ => rfl).trans (crashTo_names fs ks n)

theorem crashTo_length (fs : List Fl) (ks : List Int) (n : Nat) : (crashTo fs ks n).length = fs.length := by simpa using congrArg List.length (crashTo_names fs ks n)

theorem crashTo_here (fs : List Fl) (ks : List Int) (n : Nat) (h : n < fs.length) (h2 : n < (crashTo fs ks n).length) : (crashTo fs ks n)[n] = fs[n] := by
  have := crashTo_get fs ks n n
  rw [if_neg (by omega), List.getElem?_eq_getElem h, List.getElem?_eq_getElem h2] at this
  simpa using this

theorem crashTo_used (fs : List Fl) (ks : List Int) (hs : ∀ f ∈ fs, f.safe ≤ f.b.length) (n : Nat) (h : n < fs.length) : D.used (crashTo fs ks (n + 1)) + (fs[n].b.length - D.stays fs[n] ks[n]?) = D.used (crashTo fs ks n) := by
  have h2 : n < (crashTo fs ks n).length := by rw [crashTo_length]; exact h
  have hu := D.used_modify (crashTo fs ks n) n (crashG ks[n]?) h2
  rw [crashTo_here fs ks n h h2] at hu
  have hst := stays_le (hs _ (List.getElem_mem h)) ks[n]?
  have hl : (crashG ks[n]? fs[n]).b.length = D.stays fs[n] ks[n]? := by
    unfold crashG
    simp
    omega
  rw [hl] at hu
  show D.used ((crashTo fs ks n).modify n (crashG ks[n]?)) + _ = _
  omega

/-- What is to stay of a file, as the program takes it. -/
theorem stays_zero (f : Fl) : D.stays f (some 0) = D.stays f none := by simp [D.stays]

/-- The state at the head of the loop. -/
def PCrashAt (w1 : World) (X : Nat → Prop) (gd gm : Nat) (d : Dk) (M : DataW Nat) (ks : List Int) (k : Nat) (gone : Int) (wr : World) : Prop :=
  Only X w1 wr ∧ wr.heap.size = w1.heap.size ∧ gone = (D.used d.fs : Int) - (D.used (crashTo d.fs ks k) : Int) ∧ D.used (crashTo d.fs ks k) ≤ D.used d.fs ∧ ∃ E, PDAt wr X gd { d with fs := crashTo d.fs ks k } d.free gm M E

theorem row_cell {w : World} {base n : Nat} {t : TypeId} {a : Option Addr} {c : Nat} {xs : List Value} (h : w.ownsRow base t 1 (.slice a n c) n xs) (i : Nat) (hi : i < n) : ∃ g, a = some ⟨g, 0, none⟩ ∧ base ≤ g ∧ g < w.heap.size ∧ w.cell? ⟨g, i, none⟩ = xs[i]? := by
  have hl := h.lt
  rcases h.2 with ⟨h1, h2⟩ | ⟨g, cap, cur, h1, h2, _⟩
  · omega
  · cases h1
    exact ⟨g, rfl, h2, (hl g rfl).2, h.cellAt i (by omega)⟩

set_option maxRecDepth 20000 in
set_option maxHeartbeats 3200000 in
theorem PCrash_any (d : Dk) (X : Nat → Prop) (gd : Nat) (ks : List Int) (F : Nat → Prop) (vk : Value) (w : World) (hd : PDskIn w X gd d) (hg : Good d) (hsn : ∀ f ∈ d.fs, f.nm.size ≤ 9223372036854775807) (hv : RepI w F ks vk) (hF : ∀ k, F k → k < w.heap.size ∧ ¬ X k) :
    Calls Try.prog 19 #[.pointer (some ⟨gd, 0, none⟩), vk] w (PPost w X gd ((((D.crash d ks).1 : Nat) : Int), (D.crash d ks).2)) := by
  obtain ⟨na, nc, rfl, hnl⟩ := hv.slice
  have HV := Lib.hid hv
  have HF := Lib.hid hF
  have HX := Lib.hid hd.2
  have HD := Lib.hid hd
  have HG := Lib.hid hg
  have HSIZE := Lib.hid hsn
  clear hv hF hd hg hsn
  go_enter Try.func19, Try.ntmps19
  go_wp2_with fail
  refine (Names_any d X gd w HD.out HG.out.2.1 (by have := HG.out.1.1; omega)).mono ?_
  rintro e w1 ⟨v, rfl, hb1, hrow⟩
  obtain ⟨va, vc, rfl⟩ := owned_slice hrow
  have HB1 := Lib.hid hb1
  have HO1 : Hid (Only X w w1) := Lib.hid ((Only.of_below hb1).mono fun _ h => h)
  have HD1 : Hid (PDsk w1 X gd d) := Lib.hid (HD.out.1.same (fun _ h => h) fun k hk => hb1.block k (HX.out k hk))
  have HROW := Lib.hid hrow
  obtain ⟨gm, M, E, hat⟩ := HD1.out
  have H0 : Hid (PCrashAt w1 X gd gm d M ks 0 0 w1) := Lib.hid ⟨Only.refl _ _, rfl, by simp [crashTo], Nat.le_refl _, E, hat⟩
  have hfl : d.fs.length ≤ 4096 := HG.out.1.1
  clear hb1 hrow hat
  go_wp2_with fail
  go_loopw [5, 6, 7, 8, 12] (fun g _ _ _ i wr => ∃ (k : Nat) (y : Int), k ≤ d.fs.length ∧ i = .int .i64 (k : Int) ∧ g = .int .i64 y ∧ PCrashAt w1 X gd gm d M ks k y wr) (fun _ _ _ _ i _ => d.fs.length - (intOf i).toNat)
  case atStart => exact ⟨0, 0, Nat.zero_le _, rfl, rfl, H0.out⟩
  case round =>
    obtain ⟨k, y, hk, rfl, rfl, ho, hz, hy, hyu, E2, hat⟩ := hrel
    by_cases hlt : k < d.fs.length
    · have hkk : (k : Int) < (d.fs.length : Int) := by omega
      obtain ⟨gn, hva, hgn1, hgn2, hcn⟩ := row_cell HROW.out k hlt
      rw [List.getElem?_map, List.getElem?_eq_getElem hlt] at hcn
      subst hva
      obtain ⟨f, hfe⟩ : ∃ f, f = d.fs[k] := ⟨_, rfl⟩
      rw [← hfe] at hcn
      have hnX : ¬ X gn := fun h => by have := HX.out gn h; omega
      have hcn2 : wr.cell? ⟨gn, k, none⟩ = some (.string f.nm) := (cell_only ho hgn2 hnX k).trans hcn
      have hgn3 : gn < wr.heap.size := by omega
      have hk2 : k < (crashTo d.fs ks k).length := by rw [crashTo_length]; exact hlt
      have hhere := crashTo_here d.fs ks k hlt hk2
      have hfm : f ∈ crashTo d.fs ks k := by rw [hfe, ← hhere]; exact List.getElem_mem _
      have hfm0 : f ∈ d.fs := by rw [hfe]; exact List.getElem_mem _
      have hr2 : D.Rising (crashTo d.fs ks k) := HG.out.2.1.of_names (crashTo_names _ _ _)
      have ht : D.isThere (crashTo d.fs ks k) f.nm = true := D.isThere_mem.2 ⟨f, hfm, rfl⟩
      have hfind : D.find (crashTo d.fs ks k) f.nm = k := hr2.find_eq hk2 (by rw [hhere, hfe])
      have hsz : f.nm.size ≤ 9223372036854775807 := HSIZE.out f hfm0
      have hl := hat.look hsz (w' := wr) rfl
      have hp : ptrOf { d with fs := crashTo d.fs ks k } E2 f.nm = .pointer (some ⟨(E2 f.nm).1, 0, none⟩) := by
        unfold ptrOf
        simp only [ht, if_true]
      rw [hp] at hl
      have hfa := hat.each f hfm
      obtain ⟨⟨-, -, d2⟩, -, hgz⟩ := hat.cells
      have HSAFE := Lib.hid (HG.out.2.2 f hfm0)
      have hst := stays_le HSAFE.out ks[k]?
      have hub := D.used_mem hfm0
      have hroom : (D.used d.fs : Int) ≤ 9223372036854775807 := by
        have h1 := HG.out.1.2.2.2.2
        have h3 := HG.out.1.2.2.1
        unfold D.Dk.free at h3
        omega
      have hus := crashTo_used d.fs ks HG.out.2.2 k hlt
      rw [← hfe] at hus
      have hy0 : 0 ≤ y := by omega
      have HNEXT : Hid (∀ (w2 : World) (v' : Value), FileAt w2 (E2 f.nm).1 v' { f with b := f.b.take (D.stays f ks[k]?), safe := D.stays f ks[k]? } → v'.ownBlock = (E2 f.nm).2.ownBlock → Only (fun j => j = (E2 f.nm).1) wr w2 → w2.heap.size = wr.heap.size →
          PCrashAt w1 X gd gm d M ks (k + 1) (y + ((f.b.length - D.stays f ks[k]? : Nat) : Int)) w2 ∧ y + ((f.b.length - D.stays f ks[k]? : Nat) : Int) ≤ 9223372036854775807 ∧ 0 ≤ y + ((f.b.length - D.stays f ks[k]? : Nat) : Int)) := Lib.hid fun w2 v' h1 h2 h3 h4 => by
        have hx : ∀ j, X j → j < wr.heap.size := fun j hj => Nat.lt_of_lt_of_le (HX.out j hj) (Nat.le_trans HB1.out.size ho.size)
        obtain ⟨q1, E', q2⟩ := file_done (f := f) hat hx hr2 hfm (crashG ks[k]?) (fun _ => rfl) (v' := v') h1 h2 h3
        rw [hfind] at q2
        refine ⟨⟨ho.then q1, by omega, by omega, by omega, E', q2⟩, by omega, by omega⟩
      have HFA := Lib.hid hfa
      obtain ⟨b, hb⟩ : ∃ b, b = (E2 f.nm).1 := ⟨_, rfl⟩
      rw [← hb] at hl HFA HNEXT
      have HOK := Lib.hid ho
      have hzr : w.heap.size ≤ wr.heap.size := Nat.le_trans HB1.out.size ho.size
      have HKS : Hid (∀ j, F j → wr.heap[j]? = w.heap[j]? ∧ j < wr.heap.size) := Lib.hid fun j hj => ⟨(ho.block j (Nat.lt_of_lt_of_le (HF.out j hj).1 HB1.out.size) (HF.out j hj).2).trans (HB1.out.block j (HF.out j hj).1), Nat.lt_of_lt_of_le (HF.out j hj).1 hzr⟩
      by_cases hkl : k < ks.length
      · have hkl2 : (k : Int) < (ks.length : Int) := by omega
        have hv2 : RepI wr F ks (.slice na ks.length nc) := HV.out.same (fun _ h => h) fun j hj => (HKS.out j hj).1
        obtain ⟨kb, koff, rfl, hFb, hkc, hkr1, hkr2⟩ := hv2.elem k hkl
        have hkz := (HKS.out kb hFb).2
        obtain ⟨K, hK⟩ : ∃ K, K = ks[k] := ⟨_, rfl⟩
        rw [← hK] at hkc hkr1 hkr2
        have HSTAY : Hid (D.stays f (some K) = D.stays f ks[k]?) := Lib.hid (by rw [List.getElem?_eq_getElem hkl, hK])
        have HK1 := Lib.hid hkr1
        have HK2 := Lib.hid hkr2
        clear hat hfa hhere hfm hfm0 hr2 ht hfind hp hst hub hus hy hyu ho hz hb hv2 hcn hK hkr1 hkr2 hroom hfe
        go_wp2_with fail
        refine (FCrash_any b _ f K _ HFA.out HSAFE.out HK1.out HK2.out).mono ?_
        rintro e w2 ⟨rfl, h2, h3, v', h4, h1⟩
        rw [HSTAY.out] at h1 ⊢
        obtain ⟨hn1, hn2, hn3⟩ := HNEXT.out w2 v' h1 h4 h2 h3
        have HN := Lib.hid hn1
        obtain ⟨r, hr⟩ : ∃ r, r = f.b.length - D.stays f ks[k]? := ⟨_, rfl⟩
        rw [← hr] at hn2 hn3 HN ⊢
        clear h1 h2 h3 h4 hn1 hr
        go_wp2_with fail
        go_roundw
        case rel => exact ⟨k + 1, y + (r : Int), by omega, by go_num, rfl, HN.out⟩
        case measure => simp [intOf]; omega
      · have hkl2 : ¬ (k : Int) < (ks.length : Int) := by omega
        obtain ⟨K, hK⟩ : ∃ K : Int, K = 0 := ⟨_, rfl⟩
        have HSTAY : Hid (D.stays f (some K) = D.stays f ks[k]?) := Lib.hid (by rw [List.getElem?_eq_none (by omega), hK, stays_zero])
        have HK1 : Hid (-9223372036854775808 ≤ K) := Lib.hid (by omega)
        have HK2 : Hid (K ≤ 9223372036854775807) := Lib.hid (by omega)
        clear hat hfa hhere hfm hfm0 hr2 ht hfind hp hst hub hus hy hyu ho hz hb hcn hroom hfe
        subst hK
        go_wp2_with fail
        refine (FCrash_any b _ f 0 _ HFA.out HSAFE.out HK1.out HK2.out).mono ?_
        rintro e w2 ⟨rfl, h2, h3, v', h4, h1⟩
        rw [HSTAY.out] at h1 ⊢
        obtain ⟨hn1, hn2, hn3⟩ := HNEXT.out w2 v' h1 h4 h2 h3
        have HN := Lib.hid hn1
        obtain ⟨r, hr⟩ : ∃ r, r = f.b.length - D.stays f ks[k]? := ⟨_, rfl⟩
        rw [← hr] at hn2 hn3 HN ⊢
        clear h1 h2 h3 h4 hn1 hr
        go_wp2_with fail
        go_roundw
        case rel => exact ⟨k + 1, y + (r : Int), by omega, by go_num, rfl, HN.out⟩
        case measure => simp [intOf]; omega
    · have hkk : ¬ (k : Int) < (d.fs.length : Int) := by omega
      obtain rfl : k = d.fs.length := by omega
      rw [crashTo_all] at hat hy hyu
      obtain ⟨⟨d0, d1, -⟩, ⟨f0, f1, -⟩, hz1⟩ := hat.cells
      have hsum : d.free + y ≤ 9223372036854775807 ∧ 0 ≤ d.free ∧ 0 ≤ y := by
        have h1 := HG.out.1.2.2.2.2
        have h3 := HG.out.1.2.2.1
        unfold D.Dk.free at *
        omega
      obtain ⟨hs1, hs2, hs3⟩ := hsum
      have HFIN : Hid (∀ W, W = (wr.setCell ⟨gd, 0, none⟩ (.int .i64 (d.free + y))).setCell ⟨gd, 1, none⟩ (.int .i64 (-1)) → PPost w X gd ((((D.crash d ks).1 : Nat) : Int), (D.crash d ks).2) (.returned (.int .i64 y)) W) := Lib.hid fun W hW => by
        subst hW
        have hb2 := heap_setCell_same _ _ 0 _ _ (.int .i64 (d.free + y)) hat.box
        have hb3 := heap_setCell_same _ _ 1 _ _ (.int .i64 (-1)) hb2
        have hfr : ({ d with fs := D.crashFs d.fs ks, ends := false } : Dk).free = d.free + y := by
          unfold D.Dk.free
          simp only
          omega
        refine PPost.of HO1.out (by
          unfold D.crash
          simp only
          congr 2
          omega) ((ho.set (.inl hat.foot.1) _).set (.inl hat.foot.1) _) ⟨gm, M, E2, ?_⟩
        show PDAt _ _ gd { d with fs := D.crashFs d.fs ks, ends := false } ({ d with fs := D.crashFs d.fs ks, ends := false } : Dk).free gm M E2
        rw [hfr]
        exact (hat.ticked (d' := { d with fs := D.crashFs d.fs ks, ends := false }) (fr' := d.free + y) rfl (by rw [hb3]; simp [restOf]) fun j hj => by
          rw [Below.heap_setCell _ _ _ _ (by simpa using hj), Below.heap_setCell _ _ _ _ (by simpa using hj)]).same (fun _ h => .inl h) fun _ _ => rfl
      obtain ⟨fr, hfr⟩ : ∃ fr, fr = d.free := ⟨_, rfl⟩
      rw [← hfr] at hs1 hs2 d0
      rw [← hfr] at HFIN
      have hs4 : 0 ≤ fr + y := by omega
      clear hat hy hyu ho hz hfr
      go_wp2_with fail
      go_ret
      exact HFIN.out _ rfl
end Go.Proofs.Ytgiipkmkmomofaa.M

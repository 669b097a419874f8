/- The program's disk: Rename, Remove, Cut as they are called. The program's disk: Crash. What stays true of a disk, whatever is done to it. A server's hard state as plain lists: slots as bytes, what is newest, a save. -/
import Derived.Test.YtbcpcopapbgcdaaGreatDoorSW22
import Derived.Test.YtbcpcopapbgcdaaGreatDoorSW8
import Derived.Test.YtbcpcopapbgcdaaGreatDoorSW9
/- Part: ProjQ. -/
namespace Go.Proofs.YtbcpcopapbgcdaaGreatDoor.M
open Go.RowKit Go.Maps
open D (Fl Dk)

set_option maxRecDepth 20000 in
set_option maxHeartbeats 1600000 in
theorem PRename_any (d : Dk) (X : Nat → Prop) (gd : Nat) (a b : ByteArray) (w : World) (hd : PDskIn w X gd d) (hg : Good d) (hsa : a.size ≤ 9223372036854775807) (hsb : b.size ≤ 9223372036854775807) :
    Calls Tryz.prog 136 #[.pointer (some ⟨gd, 0, none⟩), .string a, .string b] w (PPost w X gd (D.rename d a b)) := by
  have HD := Lib.hid hd
  have HG := Lib.hid hg
  clear hd hg
  obtain ⟨W, hW⟩ : ∃ W, W = ((w.alloc (.cells #[.pointer (some ⟨gd, 0, none⟩)] 24)).alloc (.cells #[.string a] 9)).alloc (.cells #[.string b] 9) := ⟨_, rfl⟩
  have HO : Hid (Only X w W) := Lib.hid (by rw [hW]; exact (((Only.refl X w).alloc _).alloc _).alloc _)
  have HB : Hid (Below w.heap.size w W) := Lib.hid (by rw [hW]; exact (((Below.refl _ w).alloc (by omega) _).alloc (by simp) _).alloc (by simp; omega) _)
  have HSZ : Hid (W.heap.size = w.heap.size + 3) := Lib.hid (by rw [hW]; simp)
  have HC : Hid (W.cell? ⟨w.heap.size, 0, none⟩ = some (.pointer (some ⟨gd, 0, none⟩)) ∧ W.cell? ⟨w.heap.size + 1, 0, none⟩ = some (.string a) ∧ W.cell? ⟨w.heap.size + 1 + 1, 0, none⟩ = some (.string b)) := Lib.hid (by
    rw [hW]
    refine ⟨cell_past _ (cell_past _ (cell_new1 _ _ _ rfl) (by simp)) (by simp; omega), cell_past _ (cell_new1 _ _ _ (by simp)) (by simp), cell_new1 _ _ _ (by simp)⟩)
  have hwk := Work_any 168 #[.pointer (some ⟨w.heap.size, 0, none⟩), .pointer (some ⟨w.heap.size + 1, 0, none⟩), .pointer (some ⟨w.heap.size + 1 + 1, 0, none⟩)] en48 d X gd (renameB d.tick a b) W
    (HD.out.1.same (fun _ h => h) fun k hk => HB.out.block k (HD.out.2 k hk)) HG.out.1.2.1 (fun w1 ho hz hd1 hst => by
      have hnx : ∀ k, w.heap.size ≤ k → ¬ X k := fun k hk hx => by have := HD.out.2 k hx; omega
      have hsz := HSZ.out
      exact RenameC_any d.tick X gd _ _ _ a b w1 ⟨hd1, fun k hk => by have := HD.out.2 k hk; omega⟩ HG.out.tick hsa hsb
        ((cell_only ho (by omega) (hnx _ (by omega)) 0).trans HC.out.1) ((cell_only ho (by omega) (hnx _ (by omega)) 0).trans HC.out.2.1) ((cell_only ho (by omega) (hnx _ (by omega)) 0).trans HC.out.2.2)
        ⟨⟨by omega, hnx _ (by omega)⟩, ⟨by omega, hnx _ (by omega)⟩, by omega, hnx _ (by omega)⟩)
  rw [← rename_eq] at hwk
  have HWK := Lib.hid hwk
  have HWE := Lib.hid hW
  clear hwk hW
  go_enter Tryz.func136, Tryz.ntmps136
  go_wp2_with fail
  rw [← HWE.out]
  refine HWK.out.mono ?_
  intro e w' hp
  have HP := Lib.hid (hp.wrap HO.out)
  obtain ⟨rfl, -, -⟩ := hp
  go_wp2_with fail
  go_ret
  exact HP.out

set_option maxRecDepth 20000 in
set_option maxHeartbeats 1600000 in
theorem PCut_any (d : Dk) (X : Nat → Prop) (gd : Nat) (s : ByteArray) (n : Int) (w : World) (hd : PDskIn w X gd d) (hg : Good d) (hs : s.size ≤ 9223372036854775807) (hn1 : -9223372036854775808 ≤ n) (hn2 : n ≤ 9223372036854775807) :
    Calls Tryz.prog 145 #[.pointer (some ⟨gd, 0, none⟩), .string s, .int .i64 n] w (PPost w X gd (D.cut d s n)) := by
  have HD := Lib.hid hd
  have HG := Lib.hid hg
  clear hd hg
  obtain ⟨W, hW⟩ : ∃ W, W = ((w.alloc (.cells #[.pointer (some ⟨gd, 0, none⟩)] 24)).alloc (.cells #[.string s] 9)).alloc (.cells #[.int .i64 n] 3) := ⟨_, rfl⟩
  have HO : Hid (Only X w W) := Lib.hid (by rw [hW]; exact (((Only.refl X w).alloc _).alloc _).alloc _)
  have HB : Hid (Below w.heap.size w W) := Lib.hid (by rw [hW]; exact (((Below.refl _ w).alloc (by omega) _).alloc (by simp) _).alloc (by simp; omega) _)
  have HSZ : Hid (W.heap.size = w.heap.size + 3) := Lib.hid (by rw [hW]; simp)
  have HC : Hid (W.cell? ⟨w.heap.size, 0, none⟩ = some (.pointer (some ⟨gd, 0, none⟩)) ∧ W.cell? ⟨w.heap.size + 1, 0, none⟩ = some (.string s) ∧ W.cell? ⟨w.heap.size + 1 + 1, 0, none⟩ = some (.int .i64 n)) := Lib.hid (by
    rw [hW]
    refine ⟨cell_past _ (cell_past _ (cell_new1 _ _ _ rfl) (by simp)) (by simp; omega), cell_past _ (cell_new1 _ _ _ (by simp)) (by simp), cell_new1 _ _ _ (by simp)⟩)
  have hwk := Work_any 178 #[.pointer (some ⟨w.heap.size, 0, none⟩), .pointer (some ⟨w.heap.size + 1, 0, none⟩), .pointer (some ⟨w.heap.size + 1 + 1, 0, none⟩)] en51 d X gd (cutB d.tick s n) W
    (HD.out.1.same (fun _ h => h) fun k hk => HB.out.block k (HD.out.2 k hk)) HG.out.1.2.1 (fun w1 ho hz hd1 hst => by
      have hnx : ∀ k, w.heap.size ≤ k → ¬ X k := fun k hk hx => by have := HD.out.2 k hx; omega
      have hsz := HSZ.out
      exact CutC_any d.tick X gd _ _ _ s n w1 ⟨hd1, fun k hk => by have := HD.out.2 k hk; omega⟩ HG.out.tick hs hn1 hn2
        ((cell_only ho (by omega) (hnx _ (by omega)) 0).trans HC.out.1) ((cell_only ho (by omega) (hnx _ (by omega)) 0).trans HC.out.2.1) ((cell_only ho (by omega) (hnx _ (by omega)) 0).trans HC.out.2.2)
        ⟨⟨by omega, hnx _ (by omega)⟩, ⟨by omega, hnx _ (by omega)⟩, by omega, hnx _ (by omega)⟩)
  rw [← cut_eq] at hwk
  have HWK := Lib.hid hwk
  have HWE := Lib.hid hW
  clear hwk hW
  go_enter Tryz.func145, Tryz.ntmps145
  go_wp2_with fail
  rw [← HWE.out]
  refine HWK.out.mono ?_
  intro e w' hp
  have HP := Lib.hid (hp.wrap HO.out)
  obtain ⟨rfl, -, -⟩ := hp
  go_wp2_with fail
  go_ret
  exact HP.out

set_option maxRecDepth 20000 in
set_option maxHeartbeats 1600000 in
theorem PRemove_any (d : Dk) (X : Nat → Prop) (gd : Nat) (names : List ByteArray) (F : Nat → Prop) (vn : Value) (w : World) (hd : PDskIn w X gd d) (hg : Good d) (hs : ∀ s ∈ names, s.size ≤ 9223372036854775807)
    (hv : RepSl w F names vn) (hF : ∀ k, F k → k < w.heap.size ∧ ¬ X k) :
    Calls Tryz.prog 88 #[.pointer (some ⟨gd, 0, none⟩), vn] w (PPost w X gd (D.remove d names)) := by
  obtain ⟨na, nc, rfl, hnl⟩ := hv.slice
  have HV := Lib.hid hv
  have HF := Lib.hid hF
  have HD := Lib.hid hd
  have HG := Lib.hid hg
  have HS := Lib.hid hs
  clear hv hF hd hg hs
  obtain ⟨W, hW⟩ : ∃ W, W = (w.alloc (.cells #[.pointer (some ⟨gd, 0, none⟩)] 24)).alloc (.cells #[.slice na names.length nc] 43) := ⟨_, rfl⟩
  have HO : Hid (Only X w W) := Lib.hid (by rw [hW]; exact ((Only.refl X w).alloc _).alloc _)
  have HB : Hid (Below w.heap.size w W) := Lib.hid (by rw [hW]; exact ((Below.refl _ w).alloc (by omega) _).alloc (by simp) _)
  have HSZ : Hid (W.heap.size = w.heap.size + 2) := Lib.hid (by rw [hW]; simp)
  have HC : Hid (W.cell? ⟨w.heap.size, 0, none⟩ = some (.pointer (some ⟨gd, 0, none⟩)) ∧ W.cell? ⟨w.heap.size + 1, 0, none⟩ = some (.slice na names.length nc)) := Lib.hid (by
    rw [hW]
    exact ⟨cell_past _ (cell_new1 _ _ _ rfl) (by simp), cell_new1 _ _ _ (by simp)⟩)
  have hwk := Work_any 140 #[.pointer (some ⟨w.heap.size, 0, none⟩), .pointer (some ⟨w.heap.size + 1, 0, none⟩)] en44 d X gd (removeB d.tick names) W
    (HD.out.1.same (fun _ h => h) fun k hk => HB.out.block k (HD.out.2 k hk)) HG.out.1.2.1 (fun w1 ho hz hd1 hst => by
      have hnx : ∀ k, w.heap.size ≤ k → ¬ X k := fun k hk hx => by have := HD.out.2 k hx; omega
      have hsz := HSZ.out
      exact RemoveC_any d.tick X gd _ _ names F _ w1 ⟨hd1, fun k hk => by have := HD.out.2 k hk; omega⟩ HG.out.tick HS.out
        (HV.out.same (fun _ h => h) fun k hk => (ho.block k (by have := (HF.out k hk).1; omega) (HF.out k hk).2).trans (HB.out.block k (HF.out k hk).1)) (fun k hk => ⟨by have := (HF.out k hk).1; omega, (HF.out k hk).2⟩)
        ((cell_only ho (by omega) (hnx _ (by omega)) 0).trans HC.out.1) ((cell_only ho (by omega) (hnx _ (by omega)) 0).trans HC.out.2)
        ⟨⟨by omega, hnx _ (by omega)⟩, by omega, hnx _ (by omega)⟩)
  rw [← remove_eq] at hwk
  have HWK := Lib.hid hwk
  have HWE := Lib.hid hW
  clear hwk hW
  go_enter Tryz.func88, Tryz.ntmps88
  go_wp2_with fail
  rw [← HWE.out]
  refine HWK.out.mono ?_
  intro e w' hp
  have HP := Lib.hid (hp.wrap HO.out)
  obtain ⟨rfl, -, -⟩ := hp
  go_wp2_with fail
  go_ret
  exact HP.out
end Go.Proofs.YtbcpcopapbgcdaaGreatDoor.M

/- Part: ProjP. -/
namespace Go.Proofs.YtbcpcopapbgcdaaGreatDoor.M
open Go.RowKit Go.Maps
open D (Fl Dk)

/-- What a crash makes of a file. -/
def crashG (k : Option Int) (f : Fl) : Fl := { f with b := f.b.take (D.stays f k), safe := D.stays f k }

/-- The first so many files crashed, the others as they are. -/
def crashTo (fs : List Fl) (ks : List Int) : Nat → List Fl
  | 0 => fs
  | i + 1 => (crashTo fs ks i).modify i (crashG ks[i]?)

theorem crashTo_get (fs : List Fl) (ks : List Int) : ∀ (n j : Nat), (crashTo fs ks n)[j]? = if j < n then fs[j]?.map (crashG ks[j]?) else fs[j]?
  | 0, j => by simp [crashTo]
  | n + 1, j => by
    unfold crashTo
    rw [List.getElem?_modify, crashTo_get fs ks n j]
    by_cases e : n = j
    · subst e
      simp
    · rw [show (if j < n + 1 then fs[j]?.map (crashG ks[j]?) else fs[j]?) = if j < n then fs[j]?.map (crashG ks[j]?) else fs[j]? by
        by_cases h : j < n
        · rw [if_pos h, if_pos (by omega)]
        · rw [if_neg h, if_neg (by omega)]]
      simp [e]

theorem crashFs_getq : ∀ (fs : List Fl) (ks : List Int) (j : Nat), (D.crashFs fs ks)[j]? = fs[j]?.map (crashG ks[j]?)
  | [], _, j => by simp [D.crashFs]
  | f :: r, ks, 0 => by cases ks <;> simp [D.crashFs, crashG]
  | f :: r, ks, j + 1 => by
    have := crashFs_getq r ks.tail j
    simp only [D.crashFs, List.getElem?_cons_succ]
    rw [this]
    cases ks <;> simp

theorem crashTo_all (fs : List Fl) (ks : List Int) : crashTo fs ks fs.length = D.crashFs fs ks := by
  apply List.ext_getElem?
  intro j
  rw [crashTo_get, crashFs_getq]
  by_cases h : j < fs.length
  · rw [if_pos h]
  · rw [if_neg h, List.getElem?_eq_none (by omega)]; rfl

theorem crashTo_names (fs : List Fl) (ks : List Int) : ∀ n, (crashTo fs ks n).map (·.nm) = fs.map (·.nm)
  | 0 => rfl
  | n + 1 => (D.names_modify (crashTo fs ks n) n (crashG ks[n]?) fun _ => rfl).trans (crashTo_names fs ks n)

theorem crashTo_length (fs : List Fl) (ks : List Int) (n : Nat) : (crashTo fs ks n).length = fs.length := by simpa using congrArg List.length (crashTo_names fs ks n)

theorem crashTo_here (fs : List Fl) (ks : List Int) (n : Nat) (h : n < fs.length) (h2 : n < (crashTo fs ks n).length) : (crashTo fs ks n)[n] = fs[n] := by
  have := crashTo_get fs ks n n
  rw [if_neg (by omega), List.getElem?_eq_getElem h, List.getElem?_eq_getElem h2] at this
  simpa using this

theorem crashTo_used (fs : List Fl) (ks : List Int) (hs : ∀ f ∈ fs, f.safe ≤ f.b.length) (n : Nat) (h : n < fs.length) : D.used (crashTo fs ks (n + 1)) + (fs[n].b.length - D.stays fs[n] ks[n]?) = D.used (crashTo fs ks n) := by
  have h2 : n < (crashTo fs ks n).length := by rw [crashTo_length]; exact h
  have hu := D.used_modify (crashTo fs ks n) n (crashG ks[n]?) h2
  rw [crashTo_here fs ks n h h2] at hu
  have hst := stays_le (hs _ (List.getElem_mem h)) ks[n]?
  have hl : (crashG ks[n]? fs[n]).b.length = D.stays fs[n] ks[n]? := by
    unfold crashG
    simp
    omega
  rw [hl] at hu
  show D.used ((crashTo fs ks n).modify n (crashG ks[n]?)) + _ = _
  omega

/-- What is to stay of a file, as the program takes it. -/
theorem stays_zero (f : Fl) : D.stays f (some 0) = D.stays f none := by simp [D.stays]

/-- The state at the head of the loop. -/
def PCrashAt (w1 : World) (X : Nat → Prop) (gd gm : Nat) (d : Dk) (M : DataW Nat) (ks : List Int) (k : Nat) (gone : Int) (wr : World) : Prop :=
  Only X w1 wr ∧ wr.heap.size = w1.heap.size ∧ gone = (D.used d.fs : Int) - (D.used (crashTo d.fs ks k) : Int) ∧ D.used (crashTo d.fs ks k) ≤ D.used d.fs ∧ ∃ E, PDAt wr X gd { d with fs := crashTo d.fs ks k } d.free gm M E

theorem row_cell {w : World} {base n : Nat} {t : TypeId} {a : Option Addr} {c : Nat} {xs : List Value} (h : w.ownsRow base t 1 (.slice a n c) n xs) (i : Nat) (hi : i < n) : ∃ g, a = some ⟨g, 0, none⟩ ∧ base ≤ g ∧ g < w.heap.size ∧ w.cell? ⟨g, i, none⟩ = xs[i]? := by
  have hl := h.lt
  rcases h.2 with ⟨h1, h2⟩ | ⟨g, cap, cur, h1, h2, _⟩
  · omega
  · cases h1
    exact ⟨g, rfl, h2, (hl g rfl).2, h.cellAt i (by omega)⟩

set_option maxRecDepth 20000 in
set_option maxHeartbeats 3200000 in
theorem PCrash_any (d : Dk) (X : Nat → Prop) (gd : Nat) (ks : List Int) (F : Nat → Prop) (vk : Value) (w : World) (hd : PDskIn w X gd d) (hg : Good d) (hsn : ∀ f ∈ d.fs, f.nm.size ≤ 9223372036854775807) (hv : RepI w F ks vk) (hF : ∀ k, F k → k < w.heap.size ∧ ¬ X k) :
    Calls Tryz.prog 17 #[.pointer (some ⟨gd, 0, none⟩), vk] w (PPost w X gd ((((D.crash d ks).1 : Nat) : Int), (D.crash d ks).2)) := by
  obtain ⟨na, nc, rfl, hnl⟩ := hv.slice
  have HV := Lib.hid hv
  have HF := Lib.hid hF
  have HX := Lib.hid hd.2
  have HD := Lib.hid hd
  have HG := Lib.hid hg
  have HSIZE := Lib.hid hsn
  clear hv hF hd hg hsn
  go_enter Tryz.func17, Tryz.ntmps17
  go_wp2_with fail
  refine (Names_any d X gd w HD.out HG.out.2.1 (by have := HG.out.1.1; omega)).mono ?_
  rintro e w1 ⟨v, rfl, hb1, hrow⟩
  obtain ⟨va, vc, rfl⟩ := owned_slice hrow
  have HB1 := Lib.hid hb1
  have HO1 : Hid (Only X w w1) := Lib.hid ((Only.of_below hb1).mono fun _ h => h)
  have HD1 : Hid (PDsk w1 X gd d) := Lib.hid (HD.out.1.same (fun _ h => h) fun k hk => hb1.block k (HX.out k hk))
  have HROW := Lib.hid hrow
  obtain ⟨gm, M, E, hat⟩ := HD1.out
  have H0 : Hid (PCrashAt w1 X gd gm d M ks 0 0 w1) := Lib.hid ⟨Only.refl _ _, rfl, by simp [crashTo], Nat.le_refl _, E, hat⟩
  have hfl : d.fs.length ≤ 4096 := HG.out.1.1
  clear hb1 hrow hat
  go_wp2_with fail
  go_loopw [5, 6, 7, 8, 12] (fun g _ _ _ i wr => ∃ (k : Nat) (y : Int), k ≤ d.fs.length ∧ i = .int .i64 (k : Int) ∧ g = .int .i64 y ∧ PCrashAt w1 X gd gm d M ks k y wr) (fun _ _ _ _ i _ => d.fs.length - (intOf i).toNat)
  case atStart => exact ⟨0, 0, Nat.zero_le _, rfl, rfl, H0.out⟩
  case round =>
    obtain ⟨k, y, hk, rfl, rfl, ho, hz, hy, hyu, E2, hat⟩ := hrel
    by_cases hlt : k < d.fs.length
    · have hkk : (k : Int) < (d.fs.length : Int) := by omega
      obtain ⟨gn, hva, hgn1, hgn2, hcn⟩ := row_cell HROW.out k hlt
      rw [List.getElem?_map, List.getElem?_eq_getElem hlt] at hcn
      subst hva
      obtain ⟨f, hfe⟩ : ∃ f, f = d.fs[k] := ⟨_, rfl⟩
      rw [← hfe] at hcn
      have hnX : ¬ X gn := fun h => by have := HX.out gn h; omega
      have hcn2 : wr.cell? ⟨gn, k, none⟩ = some (.string f.nm) := (cell_only ho hgn2 hnX k).trans hcn
      have hgn3 : gn < wr.heap.size := by omega
      have hk2 : k < (crashTo d.fs ks k).length := by rw [crashTo_length]; exact hlt
      have hhere := crashTo_here d.fs ks k hlt hk2
      have hfm : f ∈ crashTo d.fs ks k := by rw [hfe, ← hhere]; exact List.getElem_mem _
      have hfm0 : f ∈ d.fs := by rw [hfe]; exact List.getElem_mem _
      have hr2 : D.Rising (crashTo d.fs ks k) := HG.out.2.1.of_names (crashTo_names _ _ _)
      have ht : D.isThere (crashTo d.fs ks k) f.nm = true := D.isThere_mem.2 ⟨f, hfm, rfl⟩
      have hfind : D.find (crashTo d.fs ks k) f.nm = k := hr2.find_eq hk2 (by rw [hhere, hfe])
      have hsz : f.nm.size ≤ 9223372036854775807 := HSIZE.out f hfm0
      have hl := hat.look hsz (w' := wr) rfl
      have hp : ptrOf { d with fs := crashTo d.fs ks k } E2 f.nm = .pointer (some ⟨(E2 f.nm).1, 0, none⟩) := by
        unfold ptrOf
        simp only [ht, if_true]
      rw [hp] at hl
      have hfa := hat.each f hfm
      obtain ⟨⟨-, -, d2⟩, -, hgz⟩ := hat.cells
      have HSAFE := Lib.hid (HG.out.2.2 f hfm0)
      have hst := stays_le HSAFE.out ks[k]?
      have hub := D.used_mem hfm0
      have hroom : (D.used d.fs : Int) ≤ 9223372036854775807 := by
        have h1 := HG.out.1.2.2.2.2
        have h3 := HG.out.1.2.2.1
        unfold D.Dk.free at h3
        omega
      have hus := crashTo_used d.fs ks HG.out.2.2 k hlt
      rw [← hfe] at hus
      have hy0 : 0 ≤ y := by omega
      have HNEXT : Hid (∀ (w2 : World) (v' : Value), FileAt w2 (E2 f.nm).1 v' { f with b := f.b.take (D.stays f ks[k]?), safe := D.stays f ks[k]? } → v'.ownBlock = (E2 f.nm).2.ownBlock → Only (fun j => j = (E2 f.nm).1) wr w2 → w2.heap.size = wr.heap.size →
          PCrashAt w1 X gd gm d M ks (k + 1) (y + ((f.b.length - D.stays f ks[k]? : Nat) : Int)) w2 ∧ y + ((f.b.length - D.stays f ks[k]? : Nat) : Int) ≤ 9223372036854775807 ∧ 0 ≤ y + ((f.b.length - D.stays f ks[k]? : Nat) : Int)) := Lib.hid fun w2 v' h1 h2 h3 h4 => by
        have hx : ∀ j, X j → j < wr.heap.size := fun j hj => Nat.lt_of_lt_of_le (HX.out j hj) (Nat.le_trans HB1.out.size ho.size)
        obtain ⟨q1, E', q2⟩ := file_done (f := f) hat hx hr2 hfm (crashG ks[k]?) (fun _ => rfl) (v' := v') h1 h2 h3
        rw [hfind] at q2
        refine ⟨⟨ho.then q1, by omega, by omega, by omega, E', q2⟩, by omega, by omega⟩
      have HFA := Lib.hid hfa
      obtain ⟨b, hb⟩ : ∃ b, b = (E2 f.nm).1 := ⟨_, rfl⟩
      rw [← hb] at hl HFA HNEXT
      have HOK := Lib.hid ho
      have hzr : w.heap.size ≤ wr.heap.size := Nat.le_trans HB1.out.size ho.size
      have HKS : Hid (∀ j, F j → wr.heap[j]? = w.heap[j]? ∧ j < wr.heap.size) := Lib.hid fun j hj => ⟨(ho.block j (Nat.lt_of_lt_of_le (HF.out j hj).1 HB1.out.size) (HF.out j hj).2).trans (HB1.out.block j (HF.out j hj).1), Nat.lt_of_lt_of_le (HF.out j hj).1 hzr⟩
      by_cases hkl : k < ks.length
      · have hkl2 : (k : Int) < (ks.length : Int) := by omega
        have hv2 : RepI wr F ks (.slice na ks.length nc) := HV.out.same (fun _ h => h) fun j hj => (HKS.out j hj).1
        obtain ⟨kb, koff, rfl, hFb, hkc, hkr1, hkr2⟩ := hv2.elem k hkl
        have hkz := (HKS.out kb hFb).2
        obtain ⟨K, hK⟩ : ∃ K, K = ks[k] := ⟨_, rfl⟩
        rw [← hK] at hkc hkr1 hkr2
        have HSTAY : Hid (D.stays f (some K) = D.stays f ks[k]?) := Lib.hid (by rw [List.getElem?_eq_getElem hkl, hK])
        have HK1 := Lib.hid hkr1
        have HK2 := Lib.hid hkr2
        clear hat hfa hhere hfm hfm0 hr2 ht hfind hp hst hub hus hy hyu ho hz hb hv2 hcn hK hkr1 hkr2 hroom hfe
        go_wp2_with fail
        refine (FCrash_any b _ f K _ HFA.out HSAFE.out HK1.out HK2.out).mono ?_
        rintro e w2 ⟨rfl, h2, h3, v', h4, h1⟩
        rw [HSTAY.out] at h1 ⊢
        obtain ⟨hn1, hn2, hn3⟩ := HNEXT.out w2 v' h1 h4 h2 h3
        have HN := Lib.hid hn1
        obtain ⟨r, hr⟩ : ∃ r, r = f.b.length - D.stays f ks[k]? := ⟨_, rfl⟩
        rw [← hr] at hn2 hn3 HN ⊢
        clear h1 h2 h3 h4 hn1 hr
        go_wp2_with fail
        go_roundw
        case rel => exact ⟨k + 1, y + (r : Int), by omega, by go_num, rfl, HN.out⟩
        case measure => simp [intOf]; omega
      · have hkl2 : ¬ (k : Int) < (ks.length : Int) := by omega
        obtain ⟨K, hK⟩ : ∃ K : Int, K = 0 := ⟨_, rfl⟩
        have HSTAY : Hid (D.stays f (some K) = D.stays f ks[k]?) := Lib.hid (by rw [List.getElem?_eq_none (by omega), hK, stays_zero])
        have HK1 : Hid (-9223372036854775808 ≤ K) := Lib.hid (by omega)
        have HK2 : Hid (K ≤ 9223372036854775807) := Lib.hid (by omega)
        clear hat hfa hhere hfm hfm0 hr2 ht hfind hp hst hub hus hy hyu ho hz hb hcn hroom hfe
        subst hK
        go_wp2_with fail
        refine (FCrash_any b _ f 0 _ HFA.out HSAFE.out HK1.out HK2.out).mono ?_
        rintro e w2 ⟨rfl, h2, h3, v', h4, h1⟩
        rw [HSTAY.out] at h1 ⊢
        obtain ⟨hn1, hn2, hn3⟩ := HNEXT.out w2 v' h1 h4 h2 h3
        have HN := Lib.hid hn1
        obtain ⟨r, hr⟩ : ∃ r, r = f.b.length - D.stays f ks[k]? := ⟨_, rfl⟩
        rw [← hr] at hn2 hn3 HN ⊢
        clear h1 h2 h3 h4 hn1 hr
        go_wp2_with fail
        go_roundw
        case rel => exact ⟨k + 1, y + (r : Int), by omega, by go_num, rfl, HN.out⟩
        case measure => simp [intOf]; omega
    · have hkk : ¬ (k : Int) < (d.fs.length : Int) := by omega
      obtain rfl : k = d.fs.length := by omega
      rw [crashTo_all] at hat hy hyu
      obtain ⟨⟨d0, d1, -⟩, ⟨f0, f1, -⟩, hz1⟩ := hat.cells
      have hsum : d.free + y ≤ 9223372036854775807 ∧ 0 ≤ d.free ∧ 0 ≤ y := by
        have h1 := HG.out.1.2.2.2.2
        have h3 := HG.out.1.2.2.1
        unfold D.Dk.free at *
        omega
      obtain ⟨hs1, hs2, hs3⟩ := hsum
      have HFIN : Hid (∀ W, W = (wr.setCell ⟨gd, 0, none⟩ (.int .i64 (d.free + y))).setCell ⟨gd, 1, none⟩ (.int .i64 (-1)) → PPost w X gd ((((D.crash d ks).1 : Nat) : Int), (D.crash d ks).2) (.returned (.int .i64 y)) W) := Lib.hid fun W hW => by
        subst hW
        have hb2 := heap_setCell_same _ _ 0 _ _ (.int .i64 (d.free + y)) hat.box
        have hb3 := heap_setCell_same _ _ 1 _ _ (.int .i64 (-1)) hb2
        have hfr : ({ d with fs := D.crashFs d.fs ks, ends := false } : Dk).free = d.free + y := by
          unfold D.Dk.free
          simp only
          omega
        refine PPost.of HO1.out (by
          unfold D.crash
          simp only
          congr 2
          omega) ((ho.set (.inl hat.foot.1) _).set (.inl hat.foot.1) _) ⟨gm, M, E2, ?_⟩
        show PDAt _ _ gd { d with fs := D.crashFs d.fs ks, ends := false } ({ d with fs := D.crashFs d.fs ks, ends := false } : Dk).free gm M E2
        rw [hfr]
        exact (hat.ticked (d' := { d with fs := D.crashFs d.fs ks, ends := false }) (fr' := d.free + y) rfl (by rw [hb3]; simp [restOf]) fun j hj => by
          rw [Below.heap_setCell _ _ _ _ (by simpa using hj), Below.heap_setCell _ _ _ _ (by simpa using hj)]).same (fun _ h => .inl h) fun _ _ => rfl
      obtain ⟨fr, hfr⟩ : ∃ fr, fr = d.free := ⟨_, rfl⟩
      rw [← hfr] at hs1 hs2 d0
      rw [← hfr] at HFIN
      have hs4 : 0 ≤ fr + y := by omega
      clear hat hy hyu ho hz hfr
      go_wp2_with fail
      go_ret
      exact HFIN.out _ rfl
end Go.Proofs.YtbcpcopapbgcdaaGreatDoor.M

/- Part: DiskWell. -/
namespace Go.Proofs.YtbcpcopapbgcdaaGreatDoor.M
open D (Fl Dk)

/-- What is true of a disk from its start. -/
def Well (d : Dk) : Prop := Good d ∧ ∀ f ∈ d.fs, D.okName f.nm = true

theorem ok_size {s : ByteArray} (h : D.okName s = true) : s.size ≤ 32 := by
  unfold D.okName at h
  simp only [Bool.and_eq_true, decide_eq_true_eq] at h
  exact h.2.2

theorem Well.names {d : Dk} (h : Well d) : ∀ f ∈ d.fs, f.nm.size ≤ 9223372036854775807 := fun f hf => by
  have := ok_size (h.2 f hf)
  omega

theorem Well.of {d d' : Dk} (h : Well d) (hr : d'.room = d.room) (hc : d'.calls ≤ 9223372036854775807) (hl : d'.fs.length ≤ 4096) (hu : (D.used d'.fs : Int) ≤ d.room) (hs : D.Rising d'.fs) (he : ∀ f ∈ d'.fs, f.safe ≤ f.b.length ∧ D.okName f.nm = true) : Well d' := by
  obtain ⟨⟨⟨h1, h2, h3, h4, h5⟩, h6, h7⟩, h8⟩ := h
  refine ⟨⟨⟨hl, hc, ?_, by rw [hr]; exact h4, by rw [hr]; exact h5⟩, hs, fun f hf => (he f hf).1⟩, fun f hf => (he f hf).2⟩
  unfold D.Dk.free
  rw [hr]
  omega

theorem Well.used {d : Dk} (h : Well d) : (D.used d.fs : Int) ≤ d.room := by
  have := h.1.1.2.2.1
  unfold D.Dk.free at this
  omega

theorem Well.tick {d : Dk} (h : Well d) : Well d.tick := ⟨h.1.tick, by rw [tick_fs]; exact h.2⟩

theorem fresh_well {n : Int} (h0 : 0 ≤ n) (h1 : n ≤ 9223372036854775807) : Well (fresh n) := by
  refine ⟨⟨⟨by simp [fresh], by simp [fresh], ?_, h0, h1⟩, by simp [fresh, D.Rising], fun f hf => by simp [fresh] at hf⟩, fun f hf => by simp [fresh] at hf⟩
  simp [fresh, D.Dk.free, D.used]; exact h0

theorem stop_well {d : Dk} (h : Well d) {n : Int} (hn : n ≤ 9223372036854775807) : Well (D.stop d n) :=
  h.of rfl (by simp [D.stop]; omega) h.1.1.1 h.used h.1.2.1 fun f hf => ⟨h.1.2.2 f hf, h.2 f hf⟩

theorem append_well {d : Dk} (h : Well d) (s : ByteArray) (bs : List (List UInt8)) : Well (D.append d s bs).2 ∧ D.used (D.append d s bs).2.fs ≤ D.used d.fs + bs.flatten.length := by
  rw [append_eq]
  split
  · exact ⟨h, Nat.le_add_right _ _⟩
  · have ht := h.tick
    rw [show D.used d.fs = D.used d.tick.fs by rw [tick_fs]]
    generalize d.tick = e at ht
    unfold appendB
    split
    · exact ⟨ht, by simp⟩
    · rename_i hok
      have hok : D.okName s = true := by simpa using hok
      split
      · exact ⟨ht, by simp⟩
      · rename_i hf
        have hf1 : (bs.flatten.length : Int) ≤ e.free := by omega
        have hf2 : D.isThere e.fs s = false → e.fs.length < 4096 := fun h1 => by
          rcases Nat.lt_or_ge e.fs.length 4096 with h2 | h2
          · exact h2
          · exact absurd (.inr ⟨h1, h2⟩) hf
        simp only
        obtain ⟨fs, hfs⟩ : ∃ fs, fs = (if D.isThere e.fs s = true then e.fs else D.add e.fs ⟨s, [], 0⟩) := ⟨_, rfl⟩
        have key : D.Rising fs ∧ D.isThere fs s = true ∧ D.used fs = D.used e.fs ∧ fs.length ≤ 4096 ∧ ∀ f ∈ fs, f.safe ≤ f.b.length ∧ D.okName f.nm = true := by
          rw [hfs]
          split
          · rename_i h1
            exact ⟨ht.1.2.1, h1, rfl, ht.1.1.1, fun f hf => ⟨ht.1.2.2 f hf, ht.2 f hf⟩⟩
          · rename_i h1
            have h1 : D.isThere e.fs s = false := by simpa using h1
            refine ⟨ht.1.2.1.add (x := ⟨s, [], 0⟩) (D.isThere_not.1 h1), D.isThere_mem.2 ⟨⟨s, [], 0⟩, D.mem_add.2 (.inl rfl), rfl⟩, by rw [D.used_add]; simp, by rw [D.length_add]; exact hf2 h1, fun f hf => ?_⟩
            rcases D.mem_add.1 hf with rfl | h2
            · exact ⟨Nat.le_refl _, hok⟩
            · exact ⟨ht.1.2.2 f h2, ht.2 f h2⟩
        rw [← hfs]
        obtain ⟨k1, k2, k3, k4, k5⟩ := key
        have hu := used_layAt fs (D.find fs s) bs.flatten (D.find_lt k2)
        refine ⟨ht.of rfl ht.1.1.2.1 ?_ ?_ ?_ fun f hf => ?_, by omega⟩
        · show (D.layAt fs (D.find fs s) bs.flatten).length ≤ 4096
          unfold D.layAt
          simpa using k4
        · show (D.used (D.layAt fs (D.find fs s) bs.flatten) : Int) ≤ e.room
          have := ht.used
          unfold D.Dk.free at hf1
          omega
        · exact k1.of_names (D.names_modify _ _ _ fun _ => rfl)
        · rcases D.mem_modify k1 hf with ⟨h1, _⟩ | ⟨f0, h1, _, rfl⟩
          · exact k5 f h1
          · have := k5 f0 h1
            exact ⟨by simp; omega, this.2⟩

theorem syncF_each (l : List ByteArray) : ∀ fs : List Fl, (∀ f ∈ fs, f.safe ≤ f.b.length ∧ D.okName f.nm = true) → ∀ f ∈ syncF fs l, f.safe ≤ f.b.length ∧ D.okName f.nm = true := by
  induction l with
  | nil => intro fs h; exact h
  | cons s r ih =>
    intro fs h
    refine ih _ fun f hf => ?_
    have hf2 : f ∈ fs.modify (D.find fs s) (fun f => { f with safe := f.b.length }) := hf
    clear hf
    obtain ⟨j, hj, rfl⟩ := List.mem_iff_getElem.1 hf2
    have hj' : j < fs.length := by simpa using hj
    have := h _ (List.getElem_mem hj')
    rw [List.getElem_modify]
    split
    · exact ⟨Nat.le_refl _, this.2⟩
    · exact this

theorem sync_well {d : Dk} (h : Well d) (names : List ByteArray) : Well (D.sync d names).2 ∧ D.used (D.sync d names).2.fs ≤ D.used d.fs := by
  rw [sync_eq]
  split
  · exact ⟨h, Nat.le_refl _⟩
  · have ht := h.tick
    rw [show D.used d.fs = D.used d.tick.fs by rw [tick_fs]]
    generalize d.tick = e at ht
    unfold syncB
    split
    · exact ⟨ht, Nat.le_refl _⟩
    · have hl : (syncF e.fs names).length = e.fs.length := by simpa using congrArg List.length (syncF_names names e.fs)
      have hu := syncF_used names e.fs
      exact ⟨ht.of rfl ht.1.1.2.1 (by show (syncF e.fs names).length ≤ 4096; rw [hl]; exact ht.1.1.1) (by show (D.used (syncF e.fs names) : Int) ≤ _; rw [hu]; exact ht.used) (ht.1.2.1.of_names (syncF_names _ _)) (syncF_each names e.fs fun f hf => ⟨ht.1.2.2 f hf, ht.2 f hf⟩), Nat.le_of_eq hu⟩

theorem removeF_sub (l : List ByteArray) : ∀ fs : List Fl, (removeF fs l).Sublist fs := by
  induction l with
  | nil => intro fs; exact List.Sublist.refl _
  | cons s r ih => intro fs; exact (ih _).trans (List.eraseIdx_sublist ..)

theorem remove_well {d : Dk} (h : Well d) (names : List ByteArray) : Well (D.remove d names).2 ∧ D.used (D.remove d names).2.fs ≤ D.used d.fs := by
  rw [remove_eq]
  split
  · exact ⟨h, Nat.le_refl _⟩
  · have ht := h.tick
    rw [show D.used d.fs = D.used d.tick.fs by rw [tick_fs]]
    generalize d.tick = e at ht
    unfold removeB
    split
    · exact ⟨ht, Nat.le_refl _⟩
    · have hu := removeF_used names e.fs ht.1.2.1
      have hsub := removeF_sub names e.fs
      refine ⟨ht.of rfl ht.1.1.2.1 (Nat.le_trans hsub.length_le ht.1.1.1) ?_ (removeF_rising names e.fs ht.1.2.1) (fun f hf => ⟨ht.1.2.2 f (hsub.mem hf), ht.2 f (hsub.mem hf)⟩), hu⟩
      have := ht.used
      show (D.used (removeF e.fs names) : Int) ≤ _
      omega

theorem cut_well {d : Dk} (h : Well d) (s : ByteArray) (n : Int) : Well (D.cut d s n).2 ∧ D.used (D.cut d s n).2.fs ≤ D.used d.fs := by
  rw [cut_eq]
  split
  · exact ⟨h, Nat.le_refl _⟩
  · have ht := h.tick
    rw [show D.used d.fs = D.used d.tick.fs by rw [tick_fs]]
    generalize d.tick = e at ht
    unfold cutB
    cases hf : e.fs[D.find e.fs s]? with
    | none => exact ⟨ht, Nat.le_refl _⟩
    | some f =>
      simp only
      split
      · exact ⟨ht, Nat.le_refl _⟩
      · rename_i hn
        have hl : D.find e.fs s < e.fs.length := by
          rcases Nat.lt_or_ge (D.find e.fs s) e.fs.length with h1 | h1
          · exact h1
          · rw [List.getElem?_eq_none h1] at hf; cases hf
        have hu := D.used_modify e.fs (D.find e.fs s) (fun f => { f with b := f.b.take n.toNat, safe := min f.safe n.toNat }) hl
        simp only [List.length_take] at hu
        refine ⟨ht.of rfl ht.1.1.2.1 (by simpa using ht.1.1.1) ?_ (ht.1.2.1.of_names (D.names_modify _ _ _ fun _ => rfl)) fun f2 hf2 => ?_, by simp only; omega⟩
        · have := ht.used
          simp only
          omega
        · rcases D.mem_modify ht.1.2.1 hf2 with ⟨h1, _⟩ | ⟨f0, h1, _, rfl⟩
          · exact ⟨ht.1.2.2 f2 h1, ht.2 f2 h1⟩
          · have := ht.1.2.2 f0 h1
            exact ⟨by simp; omega, ht.2 f0 h1⟩

theorem rename_well {d : Dk} (h : Well d) (a b : ByteArray) : Well (D.rename d a b).2 ∧ D.used (D.rename d a b).2.fs ≤ D.used d.fs := by
  rw [rename_eq]
  split
  · exact ⟨h, Nat.le_refl _⟩
  · have ht := h.tick
    rw [show D.used d.fs = D.used d.tick.fs by rw [tick_fs]]
    generalize d.tick = e at ht
    unfold renameB
    split
    · exact ⟨ht, Nat.le_refl _⟩
    · rename_i hn
      have hok : D.okName b = true := by
        cases hb : D.okName b with
        | true => rfl
        | false => exact absurd (.inr hb) hn
      cases hf : e.fs[D.find e.fs a]? with
      | none => exact ⟨ht, Nat.le_refl _⟩
      | some f =>
        simp only
        have hl : D.find e.fs a < e.fs.length := by
          rcases Nat.lt_or_ge (D.find e.fs a) e.fs.length with h1 | h1
          · exact h1
          · rw [List.getElem?_eq_none h1] at hf; cases hf
        have hfe : e.fs[D.find e.fs a] = f := by rw [List.getElem?_eq_getElem hl] at hf; simpa using hf
        have hfm : f ∈ e.fs := by rw [← hfe]; exact List.getElem_mem _
        have hr1 := ht.1.2.1.erase (D.find e.fs a)
        have hr2 := hr1.erase (D.find (e.fs.eraseIdx (D.find e.fs a)) b)
        have hu1 := D.used_erase e.fs _ hl
        rw [hfe] at hu1
        have hu2 := bytesOf_erase hr1 b
        have hlen1 : (e.fs.eraseIdx (D.find e.fs a)).length + 1 = e.fs.length := by rw [List.length_eraseIdx, if_pos hl]; omega
        have hlen2 := List.length_eraseIdx_le (e.fs.eraseIdx (D.find e.fs a)) (D.find (e.fs.eraseIdx (D.find e.fs a)) b)
        have hu : D.used (D.add ((e.fs.eraseIdx (D.find e.fs a)).eraseIdx (D.find (e.fs.eraseIdx (D.find e.fs a)) b)) { f with nm := b }) ≤ D.used e.fs := by
          rw [D.used_add]
          simp only
          omega
        refine ⟨ht.of rfl ht.1.1.2.1 ?_ ?_ (hr2.add (x := { f with nm := b }) fun g hg => ((D.mem_erase hr1).1 hg).2) fun g hg => ?_, hu⟩
        · rw [D.length_add]
          have := ht.1.1.1
          omega
        · have := ht.used
          simp only
          omega
        · rcases D.mem_add.1 hg with rfl | h1
          · exact ⟨ht.1.2.2 f hfm, hok⟩
          · have h2 := List.mem_of_mem_eraseIdx (List.mem_of_mem_eraseIdx h1)
            exact ⟨ht.1.2.2 g h2, ht.2 g h2⟩

theorem crash_well {d : Dk} (h : Well d) (ks : List Int) : Well (D.crash d ks).2 ∧ D.used (D.crash d ks).2.fs ≤ D.used d.fs := by
  have hn := crashTo_names d.fs ks d.fs.length
  rw [crashTo_all] at hn
  have hu : ∀ n, n ≤ d.fs.length → D.used (crashTo d.fs ks n) ≤ D.used d.fs := fun n => by
    induction n with
    | zero => intro _; exact Nat.le_refl _
    | succ n ih =>
      intro hn
      have h1 := crashTo_used d.fs ks h.1.2.2 n (by omega)
      have h2 := ih (by omega)
      omega
  have hu2 := hu d.fs.length (Nat.le_refl _)
  rw [crashTo_all] at hu2
  have hl : (D.crashFs d.fs ks).length = d.fs.length := by simpa using congrArg List.length hn
  refine ⟨h.of rfl h.1.1.2.1 (by show (D.crashFs d.fs ks).length ≤ 4096; rw [hl]; exact h.1.1.1) ?_ (h.1.2.1.of_names hn) fun f hf => ?_, hu2⟩
  · have := h.used
    show (D.used (D.crashFs d.fs ks) : Int) ≤ _
    omega
  · obtain ⟨j, hj, rfl⟩ := List.mem_iff_getElem.1 hf
    have hg := crashFs_getq d.fs ks j
    have hj2 : j < d.fs.length := by rw [← hl]; exact hj
    have hj' : j < (D.crashFs d.fs ks).length := hj
    rw [List.getElem?_eq_getElem hj', List.getElem?_eq_getElem hj2] at hg
    simp only [Option.map_some, Option.some.injEq] at hg
    have hm := List.getElem_mem (l := d.fs) hj2
    have hst := stays_le (h.1.2.2 _ hm) ks[j]?
    show ((D.crashFs d.fs ks)[j]).safe ≤ ((D.crashFs d.fs ks)[j]).b.length ∧ D.okName ((D.crashFs d.fs ks)[j]).nm = true
    rw [hg]
    refine ⟨?_, show D.okName (d.fs[j]).nm = true from h.2 _ hm⟩
    unfold crashG
    simp
    omega
end Go.Proofs.YtbcpcopapbgcdaaGreatDoor.M

/- Part: HardPure. -/
namespace Go.Proofs.YtbcpcopapbgcdaaGreatDoor.M
open Go.RowKit
open D (Fl Dk)

/-- The bound of numbers in a slot. -/
def top : Nat := 4611686018427387904

/-- May a state follow another one? (A state: its term, its vote.) -/
def follows (s e : Int × Int) : Bool := decide (0 ≤ s.1 ∧ -1 ≤ s.2 ∧ (e.1 < s.1 ∨ (s.1 = e.1 ∧ (s.2 = e.2 ∨ e.2 = -1))))

/-- A count's and a state's form. -/
def stForm (c : Nat) (s : Int × Int) : List UInt8 := num c ++ (num s.1.toNat ++ num (s.2 + 1).toNat)

def four (c : Nat) : List UInt8 := [UInt8.ofNat (c / 16777216), UInt8.ofNat (c / 65536), UInt8.ofNat (c / 256), UInt8.ofNat c]

/-- A slot's bytes. -/
def slotForm (c : Nat) (s : Int × Int) : List UInt8 := four (C.sumOf (stForm c s)) ++ stForm c s

/-- Three numbers at the front. -/
def three (b : List UInt8) : Except Int ((Nat × Nat × Nat) × List UInt8) :=
  match takeNum b with
  | .error e => .error e
  | .ok (x, b1) => match takeNum b1 with
    | .error e => .error e
    | .ok (y, b2) => match takeNum b2 with
      | .error e => .error e
      | .ok (z, b3) => .ok ((x, y, z), b3)

/-- What a slot's bytes say: the count (0: they aren't whole), the state. -/
def slot (b : List UInt8) : Nat × (Int × Int) :=
  if b.length < 4 then (0, (0, 0))
  else if b.take 4 ≠ four (C.sumOf (b.drop 4)) then (0, (0, 0))
  else match three (b.drop 4) with
    | .ok ((x, y, z), []) => if x < top ∧ y < top ∧ z ≤ top then (x, ((y : Int), (z : Int) - 1)) else (0, (0, 0))
    | _ => (0, (0, 0))

def nmH0 : ByteArray := ⟨#[104, 97, 114, 100, 45, 48]⟩
def nmH1 : ByteArray := ⟨#[104, 97, 114, 100, 45, 49]⟩

/-- Which slot is the newest (2: none), its count, the state on a disk. -/
def newest (fs : List Fl) : Nat × Nat × (Int × Int) :=
  if (slot (bytesOf fs nmH0)).1 = 0 ∧ (slot (bytesOf fs nmH1)).1 = 0 then (2, 0, (0, -1))
  else if (slot (bytesOf fs nmH0)).1 < (slot (bytesOf fs nmH1)).1 then (1, (slot (bytesOf fs nmH1)).1, (slot (bytesOf fs nmH1)).2)
  else (0, (slot (bytesOf fs nmH0)).1, (slot (bytesOf fs nmH0)).2)

/-- The slot that is written next. -/
def other (at' : Nat) : ByteArray := if at' = 0 then nmH1 else nmH0

/-- A file anew: away with the old one, the bytes, safe. -/
def saveF (d : Dk) (nm : ByteArray) (b : List UInt8) : Int × Dk :=
  let r := if D.isThere d.fs nm then D.remove d [nm] else (0, d)
  if r.1 ≠ 0 then r
  else
    let a := D.append r.2 nm [b]
    if a.1 ≠ 0 then a else D.sync a.2 [nm]

def save (d : Dk) (has s : Int × Int) : Int × Dk :=
  if follows s has = false ∨ (top : Int) ≤ s.1 ∨ (top : Int) ≤ s.2 then (2, d)
  else if s = has then (0, d)
  else saveF d (other (newest d.fs).1) (slotForm ((newest d.fs).2.1 + 1) s)

theorem takeNum_more {b q : List UInt8} {n : Nat} (h : takeNum b = .ok (n, q)) (r : List UInt8) : takeNum (b ++ r) = .ok (n, q ++ r) := by
  cases b with
  | nil => simp [takeNum] at h
  | cons c b =>
    rw [takeNum] at h
    rw [List.cons_append, takeNum]
    split at h
    · cases h
    · rename_i h1
      split at h
      · cases h
      · rename_i h2
        split at h
        · cases h
        · rename_i h3
          rw [if_neg h1]
          cases h
          have hl : c.toNat ≤ b.length := by omega
          rw [if_neg, if_neg (by rw [List.length_append]; omega), List.take_append_of_le_length hl, List.drop_append_of_le_length hl]
          rintro ⟨h4, h5⟩
          apply h2
          refine ⟨h4, ?_⟩
          cases b with
          | nil => simp at hl; omega
          | cons x b => simpa using h5

theorem three_more {b q : List UInt8} {t : Nat × Nat × Nat} (h : three b = .ok (t, q)) (r : List UInt8) : three (b ++ r) = .ok (t, q ++ r) := by
  unfold three at h ⊢
  cases h1 : takeNum b with
  | error e => rw [h1] at h; cases h
  | ok p =>
    obtain ⟨x, b1⟩ := p
    rw [h1] at h
    simp only at h
    rw [takeNum_more h1 r]
    simp only
    cases h2 : takeNum b1 with
    | error e => rw [h2] at h; cases h
    | ok p =>
      obtain ⟨y, b2⟩ := p
      rw [h2] at h
      simp only at h
      rw [takeNum_more h2 r]
      simp only
      cases h3 : takeNum b2 with
      | error e => rw [h3] at h; cases h
      | ok p =>
        obtain ⟨z, b3⟩ := p
        rw [h3] at h
        simp only at h
        rw [takeNum_more h3 r]
        cases h
        rfl

theorem three_form (x y z : Nat) (r : List UInt8) (hx : x < 18446744073709551616) (hy : y < 18446744073709551616) (hz : z < 18446744073709551616) : three (num x ++ (num y ++ (num z ++ r))) = .ok ((x, y, z), r) := by
  unfold three
  rw [take_num x _ hx]
  simp only
  rw [take_num y _ hy]
  simp only
  rw [take_num z _ hz]

/-- What may stand in a slot. -/
def InSlot (c : Nat) (s : Int × Int) : Prop := c < top ∧ 0 ≤ s.1 ∧ s.1 < (top : Int) ∧ -1 ≤ s.2 ∧ s.2 < (top : Int)

theorem four_length (c : Nat) : (four c).length = 4 := rfl

theorem slotForm_length (c : Nat) (s : Int × Int) : (slotForm c s).length = (stForm c s).length + 4 := by
  unfold slotForm
  rw [List.length_append, four_length]; omega

theorem stForm_le (c : Nat) (s : Int × Int) : (stForm c s).length ≤ 27 := by
  unfold stForm
  have h1 := num_le c
  have h2 := num_le s.1.toNat
  have h3 := num_le (s.2 + 1).toNat
  simp only [List.length_append]
  omega

theorem slotForm_le (c : Nat) (s : Int × Int) : (slotForm c s).length ≤ 31 := by
  have := stForm_le c s
  rw [slotForm_length]; omega

theorem three_st {c : Nat} {s : Int × Int} (h : InSlot c s) : three (stForm c s) = .ok ((c, s.1.toNat, (s.2 + 1).toNat), []) := by
  unfold InSlot top at h
  have := three_form c s.1.toNat (s.2 + 1).toNat [] (by omega) (by omega) (by omega)
  rw [List.append_nil] at this
  exact this

theorem slot_back {c : Nat} {s : Int × Int} (h : InSlot c s) : slot (slotForm c s) = (c, s) := by
  have ht := three_st h
  unfold InSlot at h
  have e4 : (slotForm c s).drop 4 = stForm c s := by
    unfold slotForm
    exact List.drop_left' rfl
  have e5 : (slotForm c s).take 4 = four (C.sumOf (stForm c s)) := by
    unfold slotForm
    exact List.take_left' rfl
  have hl := slotForm_length c s
  unfold slot
  rw [if_neg (by omega), e4, e5, if_neg (by simp), ht]
  simp only
  rw [if_pos (by unfold top at *; omega)]
  obtain ⟨t, v⟩ := s
  simp only at h ⊢
  congr 2
  · omega
  · omega

/-- A beginning of a slot's bytes is not whole. -/
theorem slot_cut {c : Nat} {s : Int × Int} (h : InSlot c s) {m : Nat} (hm : m < (slotForm c s).length) : (slot ((slotForm c s).take m)).1 = 0 := by
  have hl := slotForm_length c s
  have e0 : ((slotForm c s).take m).length = m := by rw [List.length_take]; omega
  unfold slot
  by_cases h4 : m < 4
  · rw [if_pos (by rw [e0]; exact h4)]
  · rw [if_neg (by rw [e0]; exact h4)]
    split
    · rfl
    · have e4 : ((slotForm c s).take m).drop 4 = (stForm c s).take (m - 4) := by
        unfold slotForm
        rw [List.take_append, four_length, List.take_of_length_le (by rw [four_length]; omega)]
        exact List.drop_left' rfl
      rw [e4]
      cases h3 : three ((stForm c s).take (m - 4)) with
      | error e => rfl
      | ok p =>
        obtain ⟨⟨x, y, z⟩, q⟩ := p
        cases q with
        | cons a q => rfl
        | nil =>
          exfalso
          have h5 := three_more h3 ((stForm c s).drop (m - 4))
          rw [List.take_append_drop, three_st h] at h5
          simp only [Except.ok.injEq, Prod.mk.injEq, List.nil_append] at h5
          have := congrArg List.length h5.2
          rw [List.length_drop] at this
          simp at this
          omega

theorem saveF_well {d : Dk} (h : Well d) (s : ByteArray) (b : List UInt8) : Well (saveF d s b).2 ∧ D.used (saveF d s b).2.fs ≤ D.used d.fs + b.length := by
  have h1 : Well (if D.isThere d.fs s then D.remove d [s] else (0, d)).2 ∧ D.used (if D.isThere d.fs s then D.remove d [s] else (0, d)).2.fs ≤ D.used d.fs := by
    split
    · exact remove_well h [s]
    · exact ⟨h, Nat.le_refl _⟩
  unfold saveF
  simp only
  obtain ⟨r, hr⟩ : ∃ r, r = (if D.isThere d.fs s then D.remove d [s] else (0, d)) := ⟨_, rfl⟩
  rw [← hr] at h1 ⊢
  split
  · exact ⟨h1.1, by omega⟩
  · have h2 := append_well h1.1 s [b]
    have e : [b].flatten.length = b.length := by simp
    rw [e] at h2
    split
    · exact ⟨h2.1, by omega⟩
    · have h3 := sync_well h2.1 [s]
      exact ⟨h3.1, by omega⟩
end Go.Proofs.YtbcpcopapbgcdaaGreatDoor.M

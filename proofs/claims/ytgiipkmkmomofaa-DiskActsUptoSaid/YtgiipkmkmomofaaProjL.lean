/- The program's disk: Sync. -/
import Derived.Test.YtgiipkmkmomofaaProjK
namespace Go.Proofs.Ytgiipkmkmomofaa.M
open Go.RowKit Go.Maps
open D (Fl Dk)

def syncB (e : Dk) (names : List ByteArray) : Int × Dk :=
  if names.all (D.isThere e.fs) = false then (30, e) else (0, { e with fs := names.foldl (fun fs s => D.syncAt fs (D.find fs s)) e.fs })

theorem sync_eq (d : Dk) (names : List ByteArray) : D.sync d names = if d.stopped then (32, d) else syncB d.tick names := rfl

def syncF (fs : List Fl) (l : List ByteArray) : List Fl := l.foldl (fun fs s => D.syncAt fs (D.find fs s)) fs

theorem syncF_names (l : List ByteArray) : ∀ fs : List Fl, (syncF fs l).map (·.nm) = fs.map (·.nm) := by
  induction l with
  | nil => intro fs; rfl
  | cons s r ih => intro fs; exact (ih _).trans (D.names_modify _ _ _ fun _ => rfl)

theorem used_same {fs gs : List Fl} (h : fs.map (fun f => f.b.length) = gs.map (fun f => f.b.length)) : D.used fs = D.used gs := by unfold D.used; rw [h]

theorem syncF_used (l : List ByteArray) : ∀ fs : List Fl, D.used (syncF fs l) = D.used fs := by
  induction l with
  | nil => intro fs; rfl
  | cons s r ih =>
    intro fs
    refine (ih _).trans (used_same ?_)
    unfold D.syncAt
    apply List.ext_getElem?
    intro j
    rw [List.getElem?_map, List.getElem?_map, List.getElem?_modify]
    cases fs[j]? with
    | none => rfl
    | some f => by_cases hj : D.find fs s = j <;> simp [hj]

theorem isThere_of_names {fs gs : List Fl} (h : fs.map (·.nm) = gs.map (·.nm)) (s : ByteArray) : D.isThere fs s = D.isThere gs s := by
  have hm : ∀ (a b : List Fl), a.map (·.nm) = b.map (·.nm) → D.isThere a s = true → D.isThere b s = true := fun a b e hh => by
    obtain ⟨f, hf, hft⟩ := D.isThere_mem.1 hh
    have : s ∈ b.map (·.nm) := by rw [← e]; exact List.mem_map.2 ⟨f, hf, hft⟩
    obtain ⟨g, hg, hgt⟩ := List.mem_map.1 this
    exact D.isThere_mem.2 ⟨g, hg, hgt⟩
  rw [Bool.eq_iff_iff]
  exact ⟨hm _ _ h, hm _ _ h.symm⟩

/-- The state at the head of the loop. -/
def PSyncAt (w1 : World) (X : Nat → Prop) (gd gm : Nat) (d : Dk) (fr : Int) (M : DataW Nat) (names : List ByteArray) (k : Nat) (wr : World) : Prop :=
  Only X w1 wr ∧ wr.heap.size = w1.heap.size ∧ ∃ E, PDAt wr X gd { d with fs := syncF d.fs (names.take k) } fr gm M E

set_option maxRecDepth 20000 in
set_option maxHeartbeats 3200000 in
theorem SyncC_any (d : Dk) (X : Nat → Prop) (gd bd bn : Nat) (names : List ByteArray) (F : Nat → Prop) (vn : Value) (w : World) (hd : PDskIn w X gd d) (hg : Good d) (hs : ∀ s ∈ names, s.size ≤ 9223372036854775807)
    (hv : RepSl w F names vn) (hF : ∀ k, F k → k < w.heap.size ∧ ¬ X k)
    (c1 : w.cell? ⟨bd, 0, none⟩ = some (.pointer (some ⟨gd, 0, none⟩))) (c2 : w.cell? ⟨bn, 0, none⟩ = some vn) (hbx : (bd < w.heap.size ∧ ¬ X bd) ∧ (bn < w.heap.size ∧ ¬ X bn)) :
    Calls Try.prog 49 #[.pointer (some ⟨bd, 0, none⟩), .pointer (some ⟨bn, 0, none⟩)] w (PPost w X gd (syncB d names)) := by
  obtain ⟨na, nc, rfl, hnl⟩ := hv.slice
  have HV := Lib.hid hv
  have HF := Lib.hid hF
  have HX := Lib.hid hd.2
  have HD := Lib.hid hd.1
  have HG := Lib.hid hg
  have HS := Lib.hid hs
  have HBX := Lib.hid hbx
  have HC1 := Lib.hid c1
  obtain ⟨⟨b1, -⟩, b2, -⟩ := hbx
  clear hv hF hd hg hs
  go_enter Try.func49, Try.ntmps49
  go_wp2_with fail
  refine (Has_any d X gd names F _ w HD.out HV.out (fun k hk => (HF.out k hk).1) HS.out).mono ?_
  rintro e w1 ⟨rfl, rfl⟩
  cases hall : names.all (D.isThere d.fs) with
  | false =>
    have HE : Hid (syncB d names = (30, d)) := Lib.hid (by unfold syncB; rw [if_pos hall])
    clear hall
    go_wp2_with fail
    go_ret
    rw [HE.out]
    exact PPost.of (Only.refl _ _) rfl (Only.refl _ _) HD.out.up
  | true =>
    have HALL := Lib.hid hall
    have HE : Hid (syncB d names = (0, { d with fs := syncF d.fs names })) := Lib.hid (by unfold syncB; rw [if_neg (by rw [hall]; simp)]; rfl)
    obtain ⟨gm, M, E, hat⟩ := HD.out
    have H0 : Hid (PSyncAt w X gd gm d d.free M names 0 w) := Lib.hid ⟨Only.refl _ _, rfl, E, hat⟩
    clear hall hat
    go_wp2_with fail
    go_loopw [4, 11] (fun _ i wr => ∃ k : Nat, k ≤ names.length ∧ i = .int .i64 (k : Int) ∧ PSyncAt w X gd gm d d.free M names k wr) (fun _ i _ => names.length - (intOf i).toNat)
    case atStart => exact ⟨0, Nat.zero_le _, rfl, H0.out⟩
    case round =>
      obtain ⟨k, hk, rfl, ho, hz, E, hat⟩ := hrel
      by_cases hlt : k < names.length
      · have hkk : (k : Int) < (names.length : Int) := by omega
        have hv2 : RepSl wr F names (.slice na names.length nc) := HV.out.same (fun _ h => h) fun j hj => ho.block j (HF.out j hj).1 (HF.out j hj).2
        obtain ⟨b, off, rfl, hFb, hc⟩ := hv2.elem k hlt
        have hbz : b < wr.heap.size := by rw [hz]; exact (HF.out b hFb).1
        obtain ⟨s, hse⟩ : ∃ s, s = names[k] := ⟨_, rfl⟩
        rw [← hse] at hc
        have hmem : s ∈ names := by rw [hse]; exact List.getElem_mem hlt
        have hl := hat.look (HS.out s hmem) (w' := wr) rfl
        obtain ⟨⟨-, -, d2⟩, -, hgz⟩ := hat.cells
        have hr2 : D.Rising (syncF d.fs (names.take k)) := HG.out.2.1.of_names (syncF_names _ _)
        have ht : D.isThere (syncF d.fs (names.take k)) s = true := by
          rw [isThere_of_names (syncF_names _ _)]
          exact List.all_eq_true.1 HALL.out s hmem
        obtain ⟨f, hf, hfs⟩ := D.isThere_mem.1 ht
        have hp : ptrOf { d with fs := syncF d.fs (names.take k) } E s = .pointer (some ⟨(E s).1, 0, none⟩) := by
          unfold ptrOf
          simp only [ht, if_true]
        rw [hp] at hl
        have hfa := hat.each f hf
        rw [hfs] at hfa
        have HNEXT : Hid (∀ w2, FileAt w2 (E s).1 (E s).2 { f with safe := f.b.length } → Only (fun j => j = (E s).1) wr w2 → w2.heap.size = wr.heap.size → PSyncAt w X gd gm d d.free M names (k + 1) w2) := Lib.hid fun w2 h1 h2 h3 => by
          have hx : ∀ j, X j → j < wr.heap.size := fun j hj => by rw [hz]; exact HX.out j hj
          obtain ⟨q1, E', q2⟩ := file_done (f := f) hat hx hr2 hf (fun g => { g with safe := g.b.length }) (fun _ => rfl) (v' := (E s).2) (by rw [hfs]; exact h1) (by rw [hfs]) (by rw [hfs]; exact h2)
          refine ⟨ho.then q1, by omega, E', ?_⟩
          have e : syncF d.fs (names.take (k + 1)) = (syncF d.fs (names.take k)).modify (D.find (syncF d.fs (names.take k)) f.nm) fun g => { g with safe := g.b.length } := by
            rw [List.take_succ_eq_append_getElem hlt, ← hse, hfs]
            unfold syncF
            rw [List.foldl_append]
            rfl
          rw [e]
          exact q2
        have HFA := Lib.hid hfa
        obtain ⟨g, hgb⟩ : ∃ g, g = (E s).1 := ⟨_, rfl⟩
        rw [← hgb] at hl HFA HNEXT
        have c1 : wr.cell? ⟨bd, 0, none⟩ = some (.pointer (some ⟨gd, 0, none⟩)) := (cell_only ho HBX.out.1.1 HBX.out.1.2 0).trans HC1.out
        have b1 : bd < wr.heap.size := Nat.lt_of_lt_of_le HBX.out.1.1 ho.size
        clear hat hf hfs hr2 ht hp hfa hgb hmem hse hv2 ho hz
        go_wp2_with fail
        refine (FSync_any g _ f _ HFA.out).mono ?_
        rintro e w2 ⟨rfl, h2, h3, h1⟩
        have HN := Lib.hid (HNEXT.out w2 h1 h2 h3)
        clear h1 h2 h3
        go_wp2_with fail
        go_roundw
        case rel => exact ⟨k + 1, by omega, by go_num, HN.out⟩
        case measure => simp [intOf]; omega
      · have hkk : ¬ (k : Int) < (names.length : Int) := by omega
        obtain rfl : k = names.length := by omega
        have HP : Hid (PPost w X gd (syncB d names) (.returned (.int .i64 0)) wr) := Lib.hid (by
          rw [HE.out]
          refine PPost.of (Only.refl _ _) rfl ho ⟨gm, M, E, ?_⟩
          rw [List.take_length] at hat
          have e : ({ d with fs := syncF d.fs names } : Dk).free = d.free := by
            unfold D.Dk.free
            simp only
            rw [syncF_used]
          rw [e]
          exact hat.same (fun _ h => .inl h) fun _ _ => rfl)
        clear hat ho hz
        go_wp2_with fail
        go_ret
        exact HP.out

set_option maxRecDepth 20000 in
set_option maxHeartbeats 1600000 in
theorem PSync_any (d : Dk) (X : Nat → Prop) (gd : Nat) (names : List ByteArray) (F : Nat → Prop) (vn : Value) (w : World) (hd : PDskIn w X gd d) (hg : Good d) (hs : ∀ s ∈ names, s.size ≤ 9223372036854775807)
    (hv : RepSl w F names vn) (hF : ∀ k, F k → k < w.heap.size ∧ ¬ X k) :
    Calls Try.prog 25 #[.pointer (some ⟨gd, 0, none⟩), vn] w (PPost w X gd (D.sync d names)) := by
  obtain ⟨na, nc, rfl, hnl⟩ := hv.slice
  have HV := Lib.hid hv
  have HF := Lib.hid hF
  have HD := Lib.hid hd
  have HG := Lib.hid hg
  have HS := Lib.hid hs
  clear hv hF hd hg hs
  obtain ⟨W, hW⟩ : ∃ W, W = (w.alloc (.cells #[.pointer (some ⟨gd, 0, none⟩)] 27)).alloc (.cells #[.slice na names.length nc] 35) := ⟨_, rfl⟩
  have HO : Hid (Only X w W) := Lib.hid (by rw [hW]; exact ((Only.refl X w).alloc _).alloc _)
  have HB : Hid (Below w.heap.size w W) := Lib.hid (by rw [hW]; exact ((Below.refl _ w).alloc (by omega) _).alloc (by simp) _)
  have HSZ : Hid (W.heap.size = w.heap.size + 2) := Lib.hid (by rw [hW]; simp)
  have HC : Hid (W.cell? ⟨w.heap.size, 0, none⟩ = some (.pointer (some ⟨gd, 0, none⟩)) ∧ W.cell? ⟨w.heap.size + 1, 0, none⟩ = some (.slice na names.length nc)) := Lib.hid (by
    rw [hW]
    exact ⟨cell_past _ (cell_new1 _ _ _ rfl) (by simp), cell_new1 _ _ _ (by simp)⟩)
  have hwk := Work_any 49 #[.pointer (some ⟨w.heap.size, 0, none⟩), .pointer (some ⟨w.heap.size + 1, 0, none⟩)] en49 d X gd (syncB d.tick names) W
    (HD.out.1.same (fun _ h => h) fun k hk => HB.out.block k (HD.out.2 k hk)) HG.out.1.2.1 (fun w1 ho hz hd1 hst => by
      have hnx : ∀ k, w.heap.size ≤ k → ¬ X k := fun k hk hx => by have := HD.out.2 k hx; omega
      have hsz := HSZ.out
      exact SyncC_any d.tick X gd _ _ names F _ w1 ⟨hd1, fun k hk => by have := HD.out.2 k hk; omega⟩ HG.out.tick HS.out
        (HV.out.same (fun _ h => h) fun k hk => (ho.block k (by have := (HF.out k hk).1; omega) (HF.out k hk).2).trans (HB.out.block k (HF.out k hk).1)) (fun k hk => ⟨by have := (HF.out k hk).1; omega, (HF.out k hk).2⟩)
        ((cell_only ho (by omega) (hnx _ (by omega)) 0).trans HC.out.1) ((cell_only ho (by omega) (hnx _ (by omega)) 0).trans HC.out.2)
        ⟨⟨by omega, hnx _ (by omega)⟩, by omega, hnx _ (by omega)⟩)
  rw [← sync_eq] at hwk
  have HWK := Lib.hid hwk
  have HWE := Lib.hid hW
  clear hwk hW
  go_enter Try.func25, Try.ntmps25
  go_wp2_with fail
  rw [← HWE.out]
  refine HWK.out.mono ?_
  intro e w' hp
  have HP := Lib.hid (hp.wrap HO.out)
  obtain ⟨rfl, -, -⟩ := hp
  go_wp2_with fail
  go_ret
  exact HP.out
end Go.Proofs.Ytgiipkmkmomofaa.M

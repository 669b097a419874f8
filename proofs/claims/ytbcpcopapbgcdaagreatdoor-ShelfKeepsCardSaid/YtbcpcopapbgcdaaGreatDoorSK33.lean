/- The law ShelfKeeps. -/
import Derived.Test.YtbcpcopapbgcdaaGreatDoorSK31
import Derived.Test.YtbcpcopapbgcdaaGreatDoorSK32
namespace Go.Proofs.YtbcpcopapbgcdaaGreatDoor.M
open Go.RowKit Go.Maps
open D (Fl Dk)

/-- Bytes lie in no block whose cells are something else. -/
theorem RepB.set {w : World} {F : Nat → Prop} {L : List UInt8} {v : Value} (h : RepB w F L v) {g j : Nat} {x : Value} (hg : ∀ i n, w.cell? ⟨g, i, none⟩ ≠ some (.int .u8 n)) : RepB (w.setCell ⟨g, j, none⟩ x) F L v := by
  rcases h with h | ⟨b, off, c, hv, hb, hl, hm, hc⟩
  · exact .inl h
  · by_cases h0 : L.length = 0
    · have hL : L = [] := List.eq_nil_of_length_eq_zero h0
      subst hL
      exact .inl ⟨rfl, _, c, by rw [hv]; rfl, hm, fun h => by cases h⟩
    · have hne : b ≠ g := fun e => by
        have := hc 0 (by omega)
        rw [e] at this
        exact hg _ _ this
      exact .inr ⟨b, off, c, hv, hb, hl, hm, fun i hi => by rw [World.cell?_of_block (Below.heap_setCell w ⟨g, j, none⟩ x b hne)]; exact hc i hi⟩

theorem snap_apart {w : World} {g : Nat} {a b : Int} {p q : Option Addr} {m n c d : Nat} {t : TypeId} (h : w.heap[g]? = some (.cells #[.int .i64 a, .int .i64 b, .slice p m c, .slice q n d] t)) : ∀ i k, w.cell? ⟨g, i, none⟩ ≠ some (.int .u8 k) := fun i k e => by
  have h1 := cell_of_row w g i _ t _ h
  rw [h1] at e
  match i with
  | 0 => cases e
  | 1 => cases e
  | 2 => cases e
  | 3 => cases e
  | i + 4 => simp at e

theorem SS.set {w wr : World} {X : Nat → Prop} {gd gs : Nat} {d : Dk} {top : Sn} (h : SS w X gd gs d top wr) {g j : Nat} {x : Value} (hg : w.heap.size ≤ g) (hX : ¬ X g) (hs : g ≠ gs) (ha : ∀ i n, wr.cell? ⟨g, i, none⟩ ≠ some (.int .u8 n)) : SS w X gd gs d top (wr.setCell ⟨g, j, none⟩ x) := by
  obtain ⟨cv, bv, h1, h2, h3⟩ := h.blk
  exact ⟨h.ds.set hg hX, ⟨cv, bv, old_set h1 (fun e => hs e.symm), (h2.set ha).weak fun k hk => ⟨by rw [World.size_setCell]; exact hk.1, hk.2⟩, (h3.set ha).weak fun k hk => ⟨by rw [World.size_setCell]; exact hk.1, hk.2⟩⟩, h.out, h.new, h.len⟩

/-- A snapshot in a variable of the law's. -/
def LstAt (w : World) (X : Nat → Prop) (gs gl : Nat) (G : Nat → Prop) (x : Sn) (wr : World) : Prop :=
  w.heap.size ≤ gl ∧ ¬ X gl ∧ gl ≠ gs ∧ ∃ p m q n, wr.heap[gl]? = some (.cells #[.int .i64 x.idx, .int .i64 x.term, .slice p x.conf.length m, .slice q x.body.length n] 53) ∧
    RepB wr (fun k => k < wr.heap.size ∧ ¬ X k ∧ k ≠ gs ∧ G k) x.conf (.slice p x.conf.length m) ∧ RepB wr (fun k => k < wr.heap.size ∧ ¬ X k ∧ k ≠ gs ∧ G k) x.body (.slice q x.body.length n)

theorem LstAt.call {w wr w' : World} {X X' G : Nat → Prop} {gs gs' gl : Nat} {x : Sn} (h : LstAt w X gs gl G x wr) (ho : Only (fun k => X k ∨ k = gs) wr w') (hX : ∀ k, X' k → X k ∨ wr.heap.size ≤ k) (hg : gs' = gs ∨ wr.heap.size ≤ gs') : LstAt w X' gs' gl G x w' := by
  obtain ⟨h1, h2, h3, p, m, q, n, h4, h5, h6⟩ := h
  have hl := lt_of_heap h4
  have hz := ho.size
  have hF : ∀ k, (k < wr.heap.size ∧ ¬ X k ∧ k ≠ gs ∧ G k) → (k < w'.heap.size ∧ ¬ X' k ∧ k ≠ gs' ∧ G k) := fun k hk => ⟨by omega, fun hx => by
    rcases hX k hx with h | h
    · exact hk.2.1 h
    · omega, by omega, hk.2.2.2⟩
  have hK : ∀ k, (k < wr.heap.size ∧ ¬ X k ∧ k ≠ gs ∧ G k) → w'.heap[k]? = wr.heap[k]? := fun k hk => ho.block k hk.1 fun h => h.elim hk.2.1 hk.2.2.1
  refine ⟨h1, fun hx => ?_, by omega, p, m, q, n, (ho.block _ hl fun h => h.elim h2 h3).trans h4, h5.same hF hK, h6.same hF hK⟩
  rcases hX _ hx with h | h
  · exact h2 h
  · omega

theorem LstAt.next {w wr w' : World} {X G : Nat → Prop} {gs gl : Nat} {x : Sn} (h : LstAt w X gs gl G x wr) (hb : Below wr.heap.size wr w') : LstAt w X gs gl G x w' :=
  h.call (Only.of_below hb) (fun _ h => .inl h) (.inl rfl)

/-- What turns is another variable. -/
theorem LstAt.far {w wr w' : World} {X G : Nat → Prop} {gs gl g : Nat} {x : Sn} (h : LstAt w X gs gl G x wr) (ho : Only (fun k => k = g) wr w') (hg : gl ≠ g) (hG : ∀ k, G k → k ≠ g) : LstAt w X gs gl G x w' := by
  obtain ⟨h1, h2, h3, p, m, q, n, h4, h5, h6⟩ := h
  have hz := ho.size
  have hF : ∀ k, (k < wr.heap.size ∧ ¬ X k ∧ k ≠ gs ∧ G k) → (k < w'.heap.size ∧ ¬ X k ∧ k ≠ gs ∧ G k) := fun k hk => ⟨by omega, hk.2⟩
  have hK : ∀ k, (k < wr.heap.size ∧ ¬ X k ∧ k ≠ gs ∧ G k) → w'.heap[k]? = wr.heap[k]? := fun k hk => ho.block k hk.1 (hG k hk.2.2.2)
  exact ⟨h1, h2, h3, p, m, q, n, (ho.block _ (lt_of_heap h4) hg).trans h4, h5.same hF hK, h6.same hF hK⟩

/-- Another snapshot is put there. -/
theorem LstAt.put {w wr : World} {X G : Nat → Prop} {gs gl : Nat} {x y : Sn} (h : LstAt w X gs gl G x wr) (hG : ∀ k, G k → k ≠ gl) {p q : Option Addr} {m n : Nat} (hc : RepB wr (fun k => k < wr.heap.size ∧ ¬ X k ∧ k ≠ gs ∧ G k) y.conf (.slice p y.conf.length m)) (hb : RepB wr (fun k => k < wr.heap.size ∧ ¬ X k ∧ k ≠ gs ∧ G k) y.body (.slice q y.body.length n)) :
    LstAt w X gs gl G y ((((wr.setCell ⟨gl, 0, none⟩ (.int .i64 y.idx)).setCell ⟨gl, 1, none⟩ (.int .i64 y.term)).setCell ⟨gl, 2, none⟩ (.slice p y.conf.length m)).setCell ⟨gl, 3, none⟩ (.slice q y.body.length n)) := by
  obtain ⟨h1, h2, h3, p', m', q', n', h4, -, -⟩ := h
  have ho : Only (fun k => k = gl) wr ((((wr.setCell ⟨gl, 0, none⟩ (.int .i64 y.idx)).setCell ⟨gl, 1, none⟩ (.int .i64 y.term)).setCell ⟨gl, 2, none⟩ (.slice p y.conf.length m)).setCell ⟨gl, 3, none⟩ (.slice q y.body.length n)) :=
    ((((Only.refl (fun k => k = gl) wr).set (.inl rfl) _).set (.inl rfl) _).set (.inl rfl) _).set (.inl rfl) _
  have hz := ho.size
  exact ⟨h1, h2, h3, p, m, q, n, heap_fourS h4, hc.same (fun k hk => ⟨by omega, hk.2⟩) fun k hk => ho.block k hk.1 (hG k hk.2.2.2), hb.same (fun k hk => ⟨by omega, hk.2⟩) fun k hk => ho.block k hk.1 (hG k hk.2.2.2)⟩

theorem SS.set4 {w wr : World} {X : Nat → Prop} {gd gs : Nat} {d : Dk} {top : Sn} (h : SS w X gd gs d top wr) {g : Nat} {a b a' b' : Int} {p q p' q' : Option Addr} {m n c e m' n' c' e' : Nat} {t : TypeId} (hg : w.heap.size ≤ g) (hX : ¬ X g) (hs : g ≠ gs) (hh : wr.heap[g]? = some (.cells #[.int .i64 a, .int .i64 b, .slice p m c, .slice q n e] t)) :
    SS w X gd gs d top ((((wr.setCell ⟨g, 0, none⟩ (.int .i64 a')).setCell ⟨g, 1, none⟩ (.int .i64 b')).setCell ⟨g, 2, none⟩ (.slice p' m' c')).setCell ⟨g, 3, none⟩ (.slice q' n' e')) := by
  have k1 : (wr.setCell ⟨g, 0, none⟩ (.int .i64 a')).heap[g]? = some (.cells #[.int .i64 a', .int .i64 b, .slice p m c, .slice q n e] t) := by simp [World.setCell, Array.getElem?_modify, hh]
  have k2 : ((wr.setCell ⟨g, 0, none⟩ (.int .i64 a')).setCell ⟨g, 1, none⟩ (.int .i64 b')).heap[g]? = some (.cells #[.int .i64 a', .int .i64 b', .slice p m c, .slice q n e] t) := by simp [World.setCell, Array.getElem?_modify, hh]
  have k3 : (((wr.setCell ⟨g, 0, none⟩ (.int .i64 a')).setCell ⟨g, 1, none⟩ (.int .i64 b')).setCell ⟨g, 2, none⟩ (.slice p' m' c')).heap[g]? = some (.cells #[.int .i64 a', .int .i64 b', .slice p' m' c', .slice q n e] t) := by simp [World.setCell, Array.getElem?_modify, hh]
  exact (((h.set hg hX hs (snap_apart hh)).set hg hX hs (snap_apart k1)).set hg hX hs (snap_apart k2)).set hg hX hs (snap_apart k3)

theorem newestS_zero {fs : List Fl} (h : (newestS fs).idx = 0) : newestS fs = Sn.zero := by
  have h1 := newestS_none.1 h
  unfold newestS
  rw [h1]
  rfl

theorem Inv6.zero {d : Dk} {top : Sn} {n : Nat} (h : Inv6 d top n) : top.idx = 0 → top = Sn.zero := by
  rw [← h.new]
  exact newestS_zero

/-- The state at the head of the loop. -/
def KpS (w : World) (gd gl : Nat) (k : Nat) (sv ix hv : Value) (wr : World) : Prop :=
  ∃ X gs d top, sv = .pointer (some ⟨gs, 0, none⟩) ∧ ix = .int .i64 (2 * (k : Int)) ∧ hv = .bool (top.idx != 0) ∧ SS w X gd gs d top wr ∧ Inv6 d top k ∧ (0 ≤ top.idx ∧ top.idx ≤ 2 * (k : Int)) ∧ LstAt w X gs gl (fun q => q ≠ gl) top wr

set_option maxRecDepth 20000 in
set_option maxHeartbeats 25600000 in
theorem ShelfKeeps_any (bodies : List (List UInt8)) (stops keep : List Int) (F : Nat → Prop) (v0 v1 v2 : Value) (w : World) (hv0 : RepBl w F bodies v0) (hv1 : RepI w F stops v1) (hv2 : RepI w F keep v2) (hF : ∀ k, F k → k < w.heap.size) (hT : Hid (Tab w)) (hP : Hid (Pow10 w)) :
    Calls Tryz.prog 7 #[v0, v1, v2] w fun e w' => e = .returned (.bool true) ∧ Below w.heap.size w w' := by
  obtain ⟨sa, sc, rfl, hsl⟩ := hv0.slice
  obtain ⟨pa, pc, rfl, hpl⟩ := hv1.slice
  obtain ⟨ka, kc, rfl, hkl⟩ := hv2.slice
  have HV0 := Lib.hid hv0
  have HV1 := Lib.hid hv1
  have HV2 := Lib.hid hv2
  have HF := Lib.hid hF
  clear hv0 hv1 hv2 hF
  by_cases hbig : 30 < bodies.length ∨ 100 < keep.length
  · have HA : Hid (∀ wx : World, Below w.heap.size w wx → Calls Tryz.prog 22 #[] wx fun e w' => e = .returned (.bool true) ∧ Below w.heap.size w w') := Lib.hid fun wx hb =>
      (awake6_any wx (Lib.hid (hT.out.next hb)) (Lib.hid (hP.out.next hb))).mono fun e w' h => ⟨h.1, hb.trans (h.2.mono hb.size)⟩
    rcases (show 30 < (bodies.length : Int) ∨ (¬ 30 < (bodies.length : Int) ∧ 100 < (keep.length : Int)) by omega) with q | ⟨q, q2⟩
    all_goals
      clear hbig
      go_enter Tryz.func7, Tryz.ntmps7
      go_wp2_with fail
      refine (HA.out w (Below.refl _ _)).mono ?_
      rintro e w0 ⟨rfl, hb0⟩
      go_wp2_with fail
      refine (HA.out w0 hb0).mono ?_
      rintro e w1 ⟨rfl, hb1⟩
      go_wp2_with fail
      go_ret
      exact ⟨rfl, hb1⟩
  · have q1 : decide ((30 : Int) < (bodies.length : Int)) = false := by simp; omega
    have q2 : decide ((100 : Int) < (keep.length : Int)) = false := by simp; omega
    have H30 : Hid (bodies.length ≤ 30) := Lib.hid (by omega)
    clear hbig
    go_enter Tryz.func7, Tryz.ntmps7
    go_wp2_with fail
    refine (awake6_any w hT hP).mono ?_
    rintro e w0 ⟨rfl, hb0⟩
    have HB0 := Lib.hid hb0
    have HT0 : Hid (Tab w0) := Lib.hid (hT.out.next hb0)
    have HP0 : Hid (Pow10 w0) := Lib.hid (hP.out.next hb0)
    clear hb0
    go_wp2_with fail
    refine (newDisk_any 100000 w0 (by omega) (by omega)).mono ?_
    rintro e w1 ⟨gd, X1, rfl, h1⟩
    have H1 := Lib.hid h1
    clear h1
    go_wp2_with fail
    refine (ShOpen_any (fresh 100000) X1 gd w0 w1 H1.out (by decide) HT0).mono ?_
    rintro e w2 ⟨gs, rfl, h2, -, -⟩
    rw [show newestS (fresh 100000).fs = Sn.zero from rfl] at h2
    have H2 := Lib.hid h2
    clear h2
    go_wp2_with fail
    obtain ⟨W, hW⟩ : ∃ W, W = w2.alloc (.cells #[.int .i64 0, .int .i64 0, .slice none 0 0, .slice none 0 0] 53) := ⟨_, rfl⟩
    obtain ⟨gl, hgl⟩ : ∃ gl, gl = w2.heap.size := ⟨_, rfl⟩
    have HST : Hid (KpS w0 gd gl 0 (.pointer (some ⟨gs, 0, none⟩)) (.int .i64 0) (.bool false) W) := Lib.hid (by
      have hb := below_alloc w2 (.cells #[.int .i64 0, .int .i64 0, .slice none 0 0, .slice none 0 0] 53)
      rw [← hW] at hb
      have hl := H2.out.lt
      refine ⟨X1, gs, fresh 100000, Sn.zero, rfl, rfl, rfl, H2.out.next hb, Inv6.fresh, ⟨by decide, by decide⟩, ?_, fun hx => ?_, by omega, none, 0, none, 0, by rw [hW, hgl]; exact heap_new _ _ _ rfl, .inl ⟨rfl, Bare.nil⟩, .inl ⟨rfl, Bare.nil⟩⟩
      · have := H2.out.ds.below.size; omega
      · have := H2.out.ds.lt _ hx; omega)
    rw [← hW, ← hgl]
    clear hW hgl
    go_loopw [9, 10, 12, 13, 14, 15, 16, 17, 18] (fun sv ev ix hv i _ _ _ _ wr => ∃ k : Nat, k ≤ bodies.length ∧ i = .int .i64 (k : Int) ∧ KpS w0 gd gl k sv ix hv wr) (fun _ _ _ _ i _ _ _ _ _ => bodies.length - (intOf i).toNat)
    case atStart => exact ⟨0, Nat.zero_le _, rfl, HST.out⟩
    case round =>
      obtain ⟨k, hk, rfl, X, gs, d, top, rfl, rfl, rfl, hss, hinv, htop, hlst⟩ := hrel
      have HSS := Lib.hid hss
      have HINV := Lib.hid hinv
      have HTOP := Lib.hid htop
      have HLST := Lib.hid hlst
      have HBW : Hid (Below w.heap.size w wr) := Lib.hid (HB0.out.trans (hss.ds.below.mono HB0.out.size))
      have hk30 : k ≤ 30 := Nat.le_trans hk H30.out
      clear hss hinv htop hlst
      by_cases hlt : k < bodies.length
      · have hkk : (k : Int) < (bodies.length : Int) := by omega
        obtain ⟨bb, boff, bu, rfl, hbF, hbc, hbr⟩ := (HV0.out.same (w' := wr) (fun _ h => h) fun j hj => HBW.out.block j (HF.out j hj)).elem k hlt
        obtain ⟨bua, buc, rfl, -⟩ := hbr.slice
        have HBR0 := Lib.hid ((HV0.out.elem k hlt).choose_spec)
        have hbz := HF.out bb hbF
        have HBW2 := HBW.out.size
        obtain ⟨B, hB⟩ : ∃ B, B = bodies[k] := ⟨_, rfl⟩
        rw [← hB] at hbc hbr
        obtain ⟨bn, hbn⟩ : ∃ n, n = B.length := ⟨_, rfl⟩
        rw [← hbn] at hbc hbr
        have HBN := Lib.hid hbn
        have HBR := Lib.hid hbr
        have HBB := Lib.hid hB
        clear hB hbn hbr HBR0
        by_cases hb1 : bn ≤ 1000
        · have hb1i : decide ((1000 : Int) < (bn : Int)) = false := by simp; omega
          have hst : (¬ (k : Int) < (stops.length : Int)) ∨ (∃ (b off : Nat) (x : Int), (k : Int) < (stops.length : Int) ∧ pa = some ⟨b, off, none⟩ ∧ b < w.heap.size ∧ wr.cell? ⟨b, off + k, none⟩ = some (.int .i64 x) ∧ (¬ 0 ≤ x ∨ 0 ≤ x)) := by
            by_cases h : k < stops.length
            · obtain ⟨b, off, hpa, hFb, hc, -, -⟩ := (HV1.out.same (w' := wr) (fun _ h => h) fun j hj => HBW.out.block j (HF.out j hj)).elem k h
              exact .inr ⟨b, off, _, by omega, hpa, HF.out b hFb, hc, by omega⟩
            · exact .inl (by omega)
          have HLT := Lib.hid hlt
          have hbz3 : bb < wr.heap.size := by omega
          rcases hst with hn | ⟨pb, poff, x, hn, rfl, hpz, hc, hx | hx⟩
          · obtain ⟨w3, hw3⟩ : ∃ w3, w3 = wr := ⟨_, rfl⟩
            obtain ⟨d3, hd3⟩ : ∃ d3, d3 = d := ⟨_, rfl⟩
            subst hw3 hd3
            have H3 := HSS
            have HI3 := HINV
            have HL3 := HLST
            have HB3 : Hid (Below w.heap.size w w3) := HBW
            go_wp2_with fail
            obtain ⟨xx, hxx⟩ : ∃ xx : Sn, xx = ⟨2 * (k : Int) + 2, 1 + (k : Int) / 3, [UInt8.ofNat k], B⟩ := ⟨_, rfl⟩
            obtain ⟨W5, hW5⟩ : ∃ W5, W5 = (w3.alloc (.cells #[.int .u8 (k : Int)] 5)).alloc (.cells #[.int .i64 (2 * (k : Int) + 2), .int .i64 (1 + (k : Int) / 3), .slice (some ⟨w3.heap.size, 0, none⟩) 1 1, .slice bua bn buc] 53) := ⟨_, rfl⟩
            rw [← hW5]
            have hb5 : Below w3.heap.size w3 W5 := by rw [hW5]; exact ((Below.refl _ w3).alloc (Nat.le_refl _) _).alloc (by simp) _
            have H5 := Lib.hid (H3.out.next hb5)
            have HL5 := Lib.hid (HL3.out.next hb5)
            obtain ⟨bx, hbx⟩ : ∃ bx, bx = w3.heap.size + 1 := ⟨_, rfl⟩
            have HGX : Hid (gl < bx) := Lib.hid (by have := HL3.out.2.2.2; obtain ⟨p, m, q, n, h4, -⟩ := this; have := lt_of_heap h4; omega)
            have hgs3 := H3.out.lt
            have hXl3 := H3.out.ds.lt
            have hXo3 := H3.out.ds.own
            have hgn3 := H3.out.new
            have hgl3 := HL3.out.1
            have hw03 := HB0.out.size
            have HX5 : Hid (LstAt w0 X gs bx (fun q => q ≠ gl ∧ q ≠ bx) xx W5) := Lib.hid (by
              have h9 : (W5.heap[bx]? = some (.cells #[.int .i64 (2 * (k : Int) + 2), .int .i64 (1 + (k : Int) / 3), .slice (some ⟨w3.heap.size, 0, none⟩) 1 1, .slice bua bn buc] 53)) := by rw [hW5, hbx]; exact heap_new _ _ _ (by simp)
              have hc9 : RepB W5 (fun q => q < W5.heap.size ∧ ¬ X q ∧ q ≠ gs ∧ q ≠ gl ∧ q ≠ bx) [UInt8.ofNat k] (.slice (some ⟨w3.heap.size, 0, none⟩) 1 1) := by
                refine .inr ⟨w3.heap.size, 0, 1, rfl, ⟨by rw [hW5]; simp; omega, fun hx => (by have := hXl3 _ hx; omega), by omega, (by have := HGX.out; obtain ⟨p, m, q, n, h4, -⟩ := HL3.out.2.2.2; have := lt_of_heap h4; omega), by omega⟩, Nat.le_refl _, by omega, fun i hi => ?_⟩
                obtain rfl : i = 0 := by simpa using hi
                have h8 : W5.heap[w3.heap.size]? = some (.cells #[.int .u8 (k : Int)] 5) := by rw [hW5]; exact old_alloc (heap_new _ _ _ rfl)
                have h7 := cell_of_row W5 w3.heap.size 0 _ _ _ h8
                rw [Nat.zero_add, h7]
                simp only [List.getElem_cons_zero, UInt8.toNat_ofNat']
                rw [Nat.mod_eq_of_lt (by omega)]
                rfl
              have hb9 : RepB W5 (fun q => q < W5.heap.size ∧ ¬ X q ∧ q ≠ gs ∧ q ≠ gl ∧ q ≠ bx) B (.slice bua bn buc) := (HV0.out.elem k HLT.out).elim fun b0 h => by
                obtain ⟨o0, u0, e0, hFb, hcb, hrb⟩ := h
                cases e0
                have hcw : w.cell? ⟨bb, boff + k, none⟩ = some (.slice bua bn buc) := (HBW.out.cell (p := ⟨bb, boff + k, none⟩) hbz).symm.trans hbc
                rw [hcw] at hcb
                cases hcb
                have hrb : RepB w F B (.slice bua bn buc) := by rw [HBB.out]; exact hrb
                refine hrb.same (fun q hq => ?_) fun q hq => (hb5.block q (Nat.lt_of_lt_of_le (HF.out q hq) HB3.out.size)).trans (HB3.out.block q (HF.out q hq))
                have hq2 := HF.out q hq
                exact ⟨Nat.lt_of_lt_of_le hq2 (Nat.le_trans HB3.out.size hb5.size), fun hx => (by have := hXo3 q hx; omega), by omega, by omega, (by have := HB3.out.size; omega)⟩
              refine ⟨by omega, fun hx => (by have := hXl3 _ hx; omega), by omega, some ⟨w3.heap.size, 0, none⟩, 1, bua, buc, ?_, ?_, ?_⟩
              · rw [hxx]
                simp only [List.length_singleton]
                rw [← HBN.out]
                exact h9
              · rw [hxx]
                exact hc9
              · rw [hxx]
                simp only
                rw [← HBN.out]
                exact hb9)
            have hxe : xx.idx = 2 * (k : Int) + 2 := by rw [hxx]
            have hxi : 1 ≤ xx.idx ∧ top.idx < xx.idx ∧ xx.idx = 2 * (k : Int) + 2 := by have := HTOP.out; exact ⟨by omega, by omega, hxe⟩
            obtain ⟨r6, d6, hp6, hout6⟩ := HI3.out.put H3.out.ds.well (x := xx) (by omega) (by rw [hxx]; exact okSn_true (by simp only; omega)) hxi.2.1 (by rw [hxx]; simp only [List.length_singleton]; rw [← HBN.out]; omega)
            have hu3 := HI3.out.used
            have HC6 : Hid (Calls Tryz.prog 31 #[.pointer (some ⟨gs, 0, none⟩), .agg #[.int .i64 (2 * (k : Int) + 2), .int .i64 (1 + (k : Int) / 3), .slice (some ⟨w3.heap.size, 0, none⟩) 1 1, .slice bua bn buc]] W5 fun e w' => e = .returned (.int .i64 r6) ∧ ∃ X', (∀ k, X' k → X k ∨ W5.heap.size ≤ k) ∧ SS w0 X' gd gs d6 (if r6 = 0 then xx else top) w' ∧ Only (fun k => X k ∨ k = gs) W5 w') := Lib.hid (by
              obtain ⟨-, -, -, p, m, q, n, h4, h5, h6⟩ := HX5.out
              have h9 : (W5.heap[bx]? = some (.cells #[.int .i64 (2 * (k : Int) + 2), .int .i64 (1 + (k : Int) / 3), .slice (some ⟨w3.heap.size, 0, none⟩) 1 1, .slice bua bn buc] 53)) := by rw [hW5, hbx]; exact heap_new _ _ _ (by simp)
              rw [h9] at h4
              have he := h4
              simp only [Option.some.injEq, Obj.cells.injEq, Array.mk.injEq, List.cons.injEq, Value.int.injEq, and_true, true_and] at he
              have hcall := H5.out.put (x := xx) h5 h6 (fun q hq => ⟨hq.1, hq.2.1⟩) (by rw [hxx]; simp only [List.length_singleton]; rw [← HBN.out]; omega) (by omega) HT0 HP0 hp6
              unfold snAgg at hcall
              rw [← he.1, ← he.2.1, ← he.2.2.1, ← he.2.2.2] at hcall
              exact hcall)
            have HXI := Lib.hid hxi
            have HBX := Lib.hid hbx
            clear hxi hxe hu3 hXl3 hXo3 hgs3 hgn3 hgl3 hw03 hp6 hbx hxx hW5 hb5
            refine HC6.out.mono ?_
            rintro e w6 ⟨rfl, X6, hx6, h6, ho6⟩
            have HL6 := Lib.hid (HL5.out.call ho6 hx6 (.inl rfl))
            have HX6 := Lib.hid (HX5.out.call ho6 hx6 (.inl rfl))
            rw [← HBX.out]
            have HI6A : Hid ((r6 = 0 ∧ Inv6 d6 xx (k + 1)) ∨ (r6 = 32 ∧ Inv6 d6 top (k + 1))) := Lib.hid hout6
            clear hx6 ho6
            rcases hout6 with ⟨rfl, hi6⟩ | ⟨rfl, hi6⟩
            · rw [if_pos rfl] at h6
              have H6 := Lib.hid h6
              have HI6 := Lib.hid hi6
              obtain ⟨-, -, -, p6, m6, q6, n6, h4, hxc, hxb⟩ := HX6.out
              obtain ⟨hl1, hl2, hl3, p7, m7, q7, n7, h7, -, -⟩ := HL6.out
              obtain ⟨c0, c1, c2, c3, -, -, -, -, cz⟩ := sh_four h4
              obtain ⟨e0, e1, e2, e3, f0, f1, f2, f3, ez⟩ := sh_four h7
              have HL7 := Lib.hid (HL6.out.put (y := xx) (fun q hq => hq) (hxc.weak fun q hq => ⟨hq.1, hq.2.1, hq.2.2.1, hq.2.2.2.1⟩) (hxb.weak fun q hq => ⟨hq.1, hq.2.1, hq.2.2.1, hq.2.2.2.1⟩))
              have H7 := Lib.hid (H6.out.set4 (a' := xx.idx) (b' := xx.term) (p' := p6) (m' := xx.conf.length) (c' := m6) (q' := q6) (n' := xx.body.length) (e' := n6) hl1 hl2 hl3 h7)
              have ho7 : Only (fun q => q = gl) w6 ((((w6.setCell ⟨gl, 0, none⟩ (.int .i64 xx.idx)).setCell ⟨gl, 1, none⟩ (.int .i64 xx.term)).setCell ⟨gl, 2, none⟩ (.slice p6 xx.conf.length m6)).setCell ⟨gl, 3, none⟩ (.slice q6 xx.body.length n6)) :=
                ((((Only.refl (fun q => q = gl) w6).set (.inl rfl) _).set (.inl rfl) _).set (.inl rfl) _).set (.inl rfl) _
              have HX7 := Lib.hid (HX6.out.far ho7 (by have := HGX.out; omega) fun q hq => hq.1)
              obtain ⟨W7, hW7⟩ : ∃ W7, W7 = (((w6.setCell ⟨gl, 0, none⟩ (.int .i64 xx.idx)).setCell ⟨gl, 1, none⟩ (.int .i64 xx.term)).setCell ⟨gl, 2, none⟩ (.slice p6 xx.conf.length m6)).setCell ⟨gl, 3, none⟩ (.slice q6 xx.body.length n6) := ⟨_, rfl⟩
              rw [← hW7] at HL7 H7 HX7
              have HW7 := Lib.hid hW7
              clear hxc hxb hl1 hl2 hl3 h4 h7 ho7 hW7 h6 hi6
              go_wp2_with fail
              rw [← HW7.out]
              obtain ⟨r8, d8, hc8, hr8, hi8⟩ := HI6.out.clean H7.out.ds.well
              have hcl := ShClean_any d6 X6 gd gs xx w0 W7 H7.out (by have := HI6.out.used; omega)
              rw [hc8] at hcl
              refine hcl.mono ?_
              clear hcl c0 c1 c2 c3 cz e0 e1 e2 e3 f0 f1 f2 f3 ez
              rintro e w8 ⟨rfl, X8, hx8, h8, ho8⟩
              have HI8 := Lib.hid hi8
              have HL8 := Lib.hid (HL7.out.call ho8 hx8 (.inl rfl))
              have HX8 := Lib.hid (HX7.out.call ho8 hx8 (.inl rfl))
              have H8 := Lib.hid h8
              clear hc8 hx8 ho8 h8 hi8
              rcases hr8 with rfl | rfl
              · simp only
                go_wp2_with fail
                go_roundw
                case rel => exact ⟨k + 1, by have := HLT.out; omega, by go_num, X8, gs, d8, xx, rfl, by rw [show 2 * ((k + 1 : Nat) : Int) = 2 * (k : Int) + 2 by omega], by rw [show (xx.idx != 0) = true by have := HXI.out; simp; omega], H8.out, HI8.out, ⟨by have := HXI.out; omega, by have := HXI.out; omega⟩, HL8.out⟩
                case measure => have := HLT.out; simp [intOf]; omega
              · obtain ⟨t, ht⟩ : ∃ t, t = xx := ⟨_, rfl⟩
                have HBT : Hid ((t.idx != 0) = true) := Lib.hid (by rw [ht]; have := HXI.out; simp; omega)
                have HTB : Hid (0 ≤ t.idx ∧ t.idx ≤ 2 * (k : Int) + 2) := Lib.hid (by rw [ht]; have := HXI.out; omega)
                have HLT8 : Hid (LstAt w0 X8 gs gl (fun q => q ≠ gl) t w8) := by rw [ht]; exact HL8
                have HIT8 : Hid (Inv6 d8 t (k + 1)) := by rw [ht]; exact HI8
                clear ht
                simp only
                go_wp2_with fail
                refine (H8.out.crash keep (fun q => q < w.heap.size) _ (HV2.out.same (fun q hq => HF.out q hq) fun q hq => (HB0.out.trans (H8.out.ds.below.mono HB0.out.size)).block q (HF.out q hq)) (fun q hq => ⟨Nat.lt_of_lt_of_le hq (Nat.le_trans HB0.out.size H8.out.ds.below.size), fun hx => (by have := H8.out.ds.own q hx; have := HB0.out.size; omega)⟩)).mono ?_
                rintro e w9 ⟨rfl, X9, hx9, h9, ho9⟩
                have HI9 := Lib.hid (HIT8.out.crash H8.out.ds.well keep)
                have HL9 := Lib.hid (HLT8.out.call (ho9.mono fun q hq => .inl hq) hx9 (.inl rfl))
                have HX9 := Lib.hid (HX8.out.call (ho9.mono fun q hq => .inl hq) hx9 (.inl rfl))
                have H9 := Lib.hid h9.ds
                obtain ⟨d9, hd9⟩ : ∃ d9, d9 = (D.crash d8 keep).2 := ⟨_, rfl⟩
                rw [← hd9] at HI9 H9
                clear hd9 hx9 h9 ho9
                go_wp2_with fail
                refine (ShOpen_any d9 X9 gd w0 w9 H9.out (by have := HI9.out.used; omega) HT0).mono ?_
                rintro e w10 ⟨gs2, rfl, h10, hb10, hg10⟩
                rw [HI9.out.new] at h10
                have H10 := Lib.hid h10
                have HL10 := Lib.hid (HL9.out.call (Only.of_below hb10) (fun q hq => .inl hq) (.inr hg10))
                have HX10 := Lib.hid (HX9.out.call (Only.of_below hb10) (fun q hq => .inl hq) (.inr hg10))
                clear h10 hb10 hg10
                go_wp2_with fail
                refine (ShTop_any d9 X9 gd gs2 t w0 w10 H10.out HI9.out.zero).mono ?_
                rintro e w11 ⟨yc, yb, rfl, hb11, hyc, hyb⟩
                rw [HBT.out]
                obtain ⟨yca, ycc, rfl, -⟩ := hyc.slice
                obtain ⟨yba, ybc, rfl, -⟩ := hyb.slice
                have HYC : Hid (RepB w11 (fun q => q < w11.heap.size) t.conf (.slice yca t.conf.length ycc)) := Lib.hid (hyc.weak fun q hq => hq.2)
                have HYB : Hid (RepB w11 (fun q => q < w11.heap.size) t.body (.slice yba t.body.length ybc)) := Lib.hid (hyb.weak fun q hq => hq.2)
                have hb12 := below_alloc w11 (.cells #[.int .i64 t.idx, .int .i64 t.term, .slice yca t.conf.length ycc, .slice yba t.body.length ybc] 53)
                have hy12 : (w11.alloc (.cells #[.int .i64 t.idx, .int .i64 t.term, .slice yca t.conf.length ycc, .slice yba t.body.length ybc] 53)).heap[w11.heap.size]? = some (.cells #[.int .i64 t.idx, .int .i64 t.term, .slice yca t.conf.length ycc, .slice yba t.body.length ybc] 53) := heap_new _ _ _ rfl
                obtain ⟨W12, hW12⟩ : ∃ W12, W12 = w11.alloc (.cells #[.int .i64 t.idx, .int .i64 t.term, .slice yca t.conf.length ycc, .slice yba t.body.length ybc] 53) := ⟨_, rfl⟩
                rw [← hW12] at hb12 hy12
                have hb102 := hb11.trans (hb12.mono hb11.size)
                have HX11 := Lib.hid (HX10.out.next hb11)
                have HL11 := Lib.hid (HL10.out.next hb11)
                have H12 := Lib.hid (H10.out.next hb102)
                have HL12 := Lib.hid (HL10.out.next hb102)
                have HX12 := Lib.hid (HX10.out.next hb102)
                have HYC12 : Hid (RepB W12 (fun q => q < W12.heap.size) t.conf (.slice yca t.conf.length ycc)) := Lib.hid (HYC.out.same (fun q hq => Nat.lt_of_lt_of_le hq hb12.size) fun q hq => hb12.block q hq)
                have HYB12 : Hid (RepB W12 (fun q => q < W12.heap.size) t.body (.slice yba t.body.length ybc)) := Lib.hid (HYB.out.same (fun q hq => Nat.lt_of_lt_of_le hq hb12.size) fun q hq => hb12.block q hq)
                obtain ⟨gy, hgy⟩ : ∃ gy, gy = w11.heap.size := ⟨_, rfl⟩
                rw [← hgy] at hy12
                have HGY := Lib.hid hgy
                have HY12 := Lib.hid hy12
                have HLY : Hid (gl < gy ∧ gy < W12.heap.size) := Lib.hid ⟨by obtain ⟨-, -, -, p, m, q, n, h4, -, -⟩ := HL10.out; have := lt_of_heap h4; have := hb11.size; omega, lt_of_heap hy12⟩
                have HW12 := Lib.hid hW12
                unfold snAgg
                clear hb11 hyc hyb hb12 hy12 hb102 hgy hW12
                simp only
                obtain ⟨-, -, -, p6, m6, q6, n6, h4, hxc, hxb⟩ := HX12.out
                have h4' : w11.heap[bx]? = some (.cells #[.int .i64 xx.idx, .int .i64 xx.term, .slice p6 xx.conf.length m6, .slice q6 xx.body.length n6] 53) := by
                  obtain ⟨-, -, -, p, m, q, n, h9, -, -⟩ := HX11.out
                  rw [HW12.out, Below.heap_alloc _ _ _ (lt_of_heap h9)] at h4
                  exact h4
                obtain ⟨c0, c1, c2, c3, -, -, -, -, cz⟩ := sh_four h4'
                have HXC12 : Hid (RepB W12 (fun q => q < W12.heap.size) xx.conf (.slice p6 xx.conf.length m6)) := Lib.hid (hxc.weak fun q hq => hq.1)
                have HXB12 : Hid (RepB W12 (fun q => q < W12.heap.size) xx.body (.slice q6 xx.body.length n6)) := Lib.hid (hxb.weak fun q hq => hq.1)
                have hsame := Same6_any t xx (.slice yca t.conf.length ycc) (.slice yba t.body.length ybc) (.slice p6 xx.conf.length m6) (.slice q6 xx.body.length n6) (fun q => q < W12.heap.size) W12 HYC12.out HYB12.out HXC12.out HXB12.out (fun _ h => h)
                have HSM := Lib.hid hsame
                unfold snAgg at HSM
                clear hxc hxb h4 h4' hsame
                go_wp2_with fail
                rw [← HW12.out, ← HGY.out]
                refine HSM.out.mono ?_
                rintro e w13 ⟨rfl, hb13⟩
                have H13 := Lib.hid (H12.out.next hb13)
                have HL13 := Lib.hid (HL12.out.next hb13)
                have HX13 := Lib.hid (HX12.out.next hb13)
                have hy13 := old_below HY12.out hb13
                have HY13 := Lib.hid hy13
                have HYC13 : Hid (RepB w13 (fun q => q < W12.heap.size) t.conf (.slice yca t.conf.length ycc)) := Lib.hid (HYC12.out.same (fun _ h => h) fun q hq => hb13.block q hq)
                have HYB13 : Hid (RepB w13 (fun q => q < W12.heap.size) t.body (.slice yba t.body.length ybc)) := Lib.hid (HYB12.out.same (fun _ h => h) fun q hq => hb13.block q hq)
                have HZ13 : Hid (W12.heap.size ≤ w13.heap.size) := Lib.hid hb13.size
                obtain ⟨hl1, hl2, hl3, p7, m7, q7, n7, h7, h8, h9⟩ := HL13.out
                obtain ⟨e0, e1, e2, e3, f0, f1, f2, f3, ez⟩ := sh_four h7
                obtain ⟨y0, y1, y2, y3, -, -, -, -, yz⟩ := sh_four hy13
                have hgy1 : gl ≠ gy := by have := HLY.out.1; omega
                have hgy2 : gy ≠ gl := by have := HLY.out.1; omega
                clear hb13 c0 c1 c2 c3 cz hy13
                cases hsm : sameSn t xx with
                | false =>
                  clear hsm
                  have hsame := Same6_any t t (.slice yca t.conf.length ycc) (.slice yba t.body.length ybc) (.slice p7 t.conf.length m7) (.slice q7 t.body.length n7) (fun q => q < w13.heap.size) w13 (HYC13.out.weak fun q hq => Nat.lt_of_lt_of_le hq HZ13.out) (HYB13.out.weak fun q hq => Nat.lt_of_lt_of_le hq HZ13.out) (h8.weak fun q hq => hq.1) (h9.weak fun q hq => hq.1) (fun _ h => h)
                  rw [(sameSn_iff t t).2 rfl] at hsame
                  have HSM2 := Lib.hid hsame
                  unfold snAgg at HSM2
                  clear hsame h7 h8 h9 hl1 hl2 hl3
                  go_wp2_with fail
                  refine HSM2.out.mono ?_
                  rintro e w14 ⟨rfl, hb14⟩
                  have HE := Lib.hid (And.intro (H13.out.next hb14) (HL13.out.next hb14))
                  clear hb14 e0 e1 e2 e3 f0 f1 f2 f3 ez y0 y1 y2 y3 yz
                  go_wp2_with fail
                  go_roundw
                  case rel => exact ⟨k + 1, by have := HLT.out; omega, by go_num, X9, gs2, d9, t, rfl, by rw [show 2 * ((k + 1 : Nat) : Int) = 2 * (k : Int) + 2 by omega], by rw [HBT.out], HE.out.1, HI9.out, ⟨HTB.out.1, by have := HTB.out.2; omega⟩, HE.out.2⟩
                  case measure => have := HLT.out; simp [intOf]; omega
                | true =>
                  have hteq := (sameSn_iff t xx).1 hsm
                  have HTE := Lib.hid hteq
                  obtain ⟨-, -, -, p8, m8, q8, n8, h10, hxc, hxb⟩ := HX13.out
                  rw [← hteq] at h10 hxc hxb
                  have hcx := HX13.out
                  obtain ⟨c0, c1, c2, c3, -, -, -, -, cz⟩ := sh_four h10
                  have HL14 := Lib.hid (HL13.out.put (y := t) (fun q hq => hq) (hxc.weak fun q hq => ⟨hq.1, hq.2.1, hq.2.2.1, hq.2.2.2.1⟩) (hxb.weak fun q hq => ⟨hq.1, hq.2.1, hq.2.2.1, hq.2.2.2.1⟩))
                  have H14 := Lib.hid (H13.out.set4 (a' := t.idx) (b' := t.term) (p' := p8) (m' := t.conf.length) (c' := m8) (q' := q8) (n' := t.body.length) (e' := n8) hl1 hl2 hl3 h7)
                  have ho14 : Only (fun q => q = gl) w13 ((((w13.setCell ⟨gl, 0, none⟩ (.int .i64 t.idx)).setCell ⟨gl, 1, none⟩ (.int .i64 t.term)).setCell ⟨gl, 2, none⟩ (.slice p8 t.conf.length m8)).setCell ⟨gl, 3, none⟩ (.slice q8 t.body.length n8)) :=
                    ((((Only.refl (fun q => q = gl) w13).set (.inl rfl) _).set (.inl rfl) _).set (.inl rfl) _).set (.inl rfl) _
                  obtain ⟨W14, hW14⟩ : ∃ W14, W14 = (((w13.setCell ⟨gl, 0, none⟩ (.int .i64 t.idx)).setCell ⟨gl, 1, none⟩ (.int .i64 t.term)).setCell ⟨gl, 2, none⟩ (.slice p8 t.conf.length m8)).setCell ⟨gl, 3, none⟩ (.slice q8 t.body.length n8) := ⟨_, rfl⟩
                  rw [← hW14] at HL14 H14 ho14
                  have HW14 := Lib.hid hW14
                  have hgz := snap_apart h7
                  have rY : ∀ {l : List UInt8} {v : Value}, RepB w13 (fun q => q < W12.heap.size) l v → RepB W14 (fun q => q < W14.heap.size) l v := fun {l v} h => by
                    rw [hW14]
                    have k1 : (w13.setCell ⟨gl, 0, none⟩ (.int .i64 t.idx)).heap[gl]? = some (.cells #[.int .i64 t.idx, .int .i64 t.term, .slice p7 t.conf.length m7, .slice q7 t.body.length n7] 53) := by simp [World.setCell, Array.getElem?_modify, h7]
                    have k2 : ((w13.setCell ⟨gl, 0, none⟩ (.int .i64 t.idx)).setCell ⟨gl, 1, none⟩ (.int .i64 t.term)).heap[gl]? = some (.cells #[.int .i64 t.idx, .int .i64 t.term, .slice p7 t.conf.length m7, .slice q7 t.body.length n7] 53) := by simp [World.setCell, Array.getElem?_modify, h7]
                    have k3 : (((w13.setCell ⟨gl, 0, none⟩ (.int .i64 t.idx)).setCell ⟨gl, 1, none⟩ (.int .i64 t.term)).setCell ⟨gl, 2, none⟩ (.slice p8 t.conf.length m8)).heap[gl]? = some (.cells #[.int .i64 t.idx, .int .i64 t.term, .slice p8 t.conf.length m8, .slice q7 t.body.length n7] 53) := by simp [World.setCell, Array.getElem?_modify, h7]
                    exact ((((h.set hgz).set (snap_apart k1)).set (snap_apart k2)).set (snap_apart k3)).weak fun q hq => by
                      have := HZ13.out
                      simp only [World.size_setCell]
                      omega
                  have hsame := Same6_any t t (.slice yca t.conf.length ycc) (.slice yba t.body.length ybc) (.slice p8 t.conf.length m8) (.slice q8 t.body.length n8) (fun q => q < W14.heap.size) W14 (rY HYC13.out) (rY HYB13.out) (hxc.same (fun q hq => Nat.lt_of_lt_of_le hq.1 ho14.size) fun q hq => ho14.block q hq.1 hq.2.2.2.1) (hxb.same (fun q hq => Nat.lt_of_lt_of_le hq.1 ho14.size) fun q hq => ho14.block q hq.1 hq.2.2.2.1) (fun _ h => h)
                  rw [(sameSn_iff t t).2 rfl] at hsame
                  have HSM2 := Lib.hid hsame
                  unfold snAgg at HSM2
                  clear hsame h7 h8 h9 hl1 hl2 hl3 h10 hxc hxb hcx ho14 hW14 hgz rY hteq hsm
                  go_wp2_with fail
                  rw [← HW14.out]
                  refine HSM2.out.mono ?_
                  rintro e w15 ⟨rfl, hb15⟩
                  have HE := Lib.hid (And.intro (H14.out.next hb15) (HL14.out.next hb15))
                  clear hb15 c0 c1 c2 c3 cz e0 e1 e2 e3 f0 f1 f2 f3 ez y0 y1 y2 y3 yz
                  go_wp2_with fail
                  go_roundw
                  case rel => exact ⟨k + 1, by have := HLT.out; omega, by go_num, X9, gs2, d9, t, rfl, by rw [show 2 * ((k + 1 : Nat) : Int) = 2 * (k : Int) + 2 by omega], by rw [HBT.out], HE.out.1, HI9.out, ⟨HTB.out.1, by have := HTB.out.2; omega⟩, HE.out.2⟩
                  case measure => have := HLT.out; simp [intOf]; omega
            · rw [if_neg (by simp)] at h6
              have H8 := Lib.hid h6
              have HIT8 := Lib.hid hi6
              have HLT8 := HL6
              have HX8 := HX6
              have HTB : Hid (0 ≤ top.idx ∧ top.idx ≤ 2 * (k : Int) + 2) := Lib.hid (by have := HTOP.out; omega)
              obtain ⟨w8, hw8⟩ : ∃ w8, w8 = w6 := ⟨_, rfl⟩
              obtain ⟨d8, hd8⟩ : ∃ d8, d8 = d6 := ⟨_, rfl⟩
              obtain ⟨X8, hX8⟩ : ∃ X8, X8 = X6 := ⟨_, rfl⟩
              obtain ⟨t, ht⟩ : ∃ t, t = top := ⟨_, rfl⟩
              subst hw8 hd8 hX8 ht
              clear h6 hi6
              cases hb : (t.idx != 0) with
              | true =>
                have HBT := Lib.hid hb
                clear hb
                go_wp2_with fail
                refine (H8.out.crash keep (fun q => q < w.heap.size) _ (HV2.out.same (fun q hq => HF.out q hq) fun q hq => (HB0.out.trans (H8.out.ds.below.mono HB0.out.size)).block q (HF.out q hq)) (fun q hq => ⟨Nat.lt_of_lt_of_le hq (Nat.le_trans HB0.out.size H8.out.ds.below.size), fun hx => (by have := H8.out.ds.own q hx; have := HB0.out.size; omega)⟩)).mono ?_
                rintro e w9 ⟨rfl, X9, hx9, h9, ho9⟩
                have HI9 := Lib.hid (HIT8.out.crash H8.out.ds.well keep)
                have HL9 := Lib.hid (HLT8.out.call (ho9.mono fun q hq => .inl hq) hx9 (.inl rfl))
                have HX9 := Lib.hid (HX8.out.call (ho9.mono fun q hq => .inl hq) hx9 (.inl rfl))
                have H9 := Lib.hid h9.ds
                obtain ⟨d9, hd9⟩ : ∃ d9, d9 = (D.crash d8 keep).2 := ⟨_, rfl⟩
                rw [← hd9] at HI9 H9
                clear hd9 hx9 h9 ho9
                go_wp2_with fail
                refine (ShOpen_any d9 X9 gd w0 w9 H9.out (by have := HI9.out.used; omega) HT0).mono ?_
                rintro e w10 ⟨gs2, rfl, h10, hb10, hg10⟩
                rw [HI9.out.new] at h10
                have H10 := Lib.hid h10
                have HL10 := Lib.hid (HL9.out.call (Only.of_below hb10) (fun q hq => .inl hq) (.inr hg10))
                have HX10 := Lib.hid (HX9.out.call (Only.of_below hb10) (fun q hq => .inl hq) (.inr hg10))
                clear h10 hb10 hg10
                go_wp2_with fail
                refine (ShTop_any d9 X9 gd gs2 t w0 w10 H10.out HI9.out.zero).mono ?_
                rintro e w11 ⟨yc, yb, rfl, hb11, hyc, hyb⟩
                rw [HBT.out]
                obtain ⟨yca, ycc, rfl, -⟩ := hyc.slice
                obtain ⟨yba, ybc, rfl, -⟩ := hyb.slice
                have HYC : Hid (RepB w11 (fun q => q < w11.heap.size) t.conf (.slice yca t.conf.length ycc)) := Lib.hid (hyc.weak fun q hq => hq.2)
                have HYB : Hid (RepB w11 (fun q => q < w11.heap.size) t.body (.slice yba t.body.length ybc)) := Lib.hid (hyb.weak fun q hq => hq.2)
                have hb12 := below_alloc w11 (.cells #[.int .i64 t.idx, .int .i64 t.term, .slice yca t.conf.length ycc, .slice yba t.body.length ybc] 53)
                have hy12 : (w11.alloc (.cells #[.int .i64 t.idx, .int .i64 t.term, .slice yca t.conf.length ycc, .slice yba t.body.length ybc] 53)).heap[w11.heap.size]? = some (.cells #[.int .i64 t.idx, .int .i64 t.term, .slice yca t.conf.length ycc, .slice yba t.body.length ybc] 53) := heap_new _ _ _ rfl
                obtain ⟨W12, hW12⟩ : ∃ W12, W12 = w11.alloc (.cells #[.int .i64 t.idx, .int .i64 t.term, .slice yca t.conf.length ycc, .slice yba t.body.length ybc] 53) := ⟨_, rfl⟩
                rw [← hW12] at hb12 hy12
                have hb102 := hb11.trans (hb12.mono hb11.size)
                have HX11 := Lib.hid (HX10.out.next hb11)
                have HL11 := Lib.hid (HL10.out.next hb11)
                have H12 := Lib.hid (H10.out.next hb102)
                have HL12 := Lib.hid (HL10.out.next hb102)
                have HX12 := Lib.hid (HX10.out.next hb102)
                have HYC12 : Hid (RepB W12 (fun q => q < W12.heap.size) t.conf (.slice yca t.conf.length ycc)) := Lib.hid (HYC.out.same (fun q hq => Nat.lt_of_lt_of_le hq hb12.size) fun q hq => hb12.block q hq)
                have HYB12 : Hid (RepB W12 (fun q => q < W12.heap.size) t.body (.slice yba t.body.length ybc)) := Lib.hid (HYB.out.same (fun q hq => Nat.lt_of_lt_of_le hq hb12.size) fun q hq => hb12.block q hq)
                obtain ⟨gy, hgy⟩ : ∃ gy, gy = w11.heap.size := ⟨_, rfl⟩
                rw [← hgy] at hy12
                have HGY := Lib.hid hgy
                have HY12 := Lib.hid hy12
                have HLY : Hid (gl < gy ∧ gy < W12.heap.size) := Lib.hid ⟨by obtain ⟨-, -, -, p, m, q, n, h4, -, -⟩ := HL10.out; have := lt_of_heap h4; have := hb11.size; omega, lt_of_heap hy12⟩
                have HW12 := Lib.hid hW12
                unfold snAgg
                clear hb11 hyc hyb hb12 hy12 hb102 hgy hW12
                simp only
                obtain ⟨-, -, -, p6, m6, q6, n6, h4, hxc, hxb⟩ := HX12.out
                have h4' : w11.heap[bx]? = some (.cells #[.int .i64 xx.idx, .int .i64 xx.term, .slice p6 xx.conf.length m6, .slice q6 xx.body.length n6] 53) := by
                  obtain ⟨-, -, -, p, m, q, n, h9, -, -⟩ := HX11.out
                  rw [HW12.out, Below.heap_alloc _ _ _ (lt_of_heap h9)] at h4
                  exact h4
                obtain ⟨c0, c1, c2, c3, -, -, -, -, cz⟩ := sh_four h4'
                have HXC12 : Hid (RepB W12 (fun q => q < W12.heap.size) xx.conf (.slice p6 xx.conf.length m6)) := Lib.hid (hxc.weak fun q hq => hq.1)
                have HXB12 : Hid (RepB W12 (fun q => q < W12.heap.size) xx.body (.slice q6 xx.body.length n6)) := Lib.hid (hxb.weak fun q hq => hq.1)
                have hsame := Same6_any t xx (.slice yca t.conf.length ycc) (.slice yba t.body.length ybc) (.slice p6 xx.conf.length m6) (.slice q6 xx.body.length n6) (fun q => q < W12.heap.size) W12 HYC12.out HYB12.out HXC12.out HXB12.out (fun _ h => h)
                have HSM := Lib.hid hsame
                unfold snAgg at HSM
                clear hxc hxb h4 h4' hsame
                go_wp2_with fail
                rw [← HW12.out, ← HGY.out]
                refine HSM.out.mono ?_
                rintro e w13 ⟨rfl, hb13⟩
                have H13 := Lib.hid (H12.out.next hb13)
                have HL13 := Lib.hid (HL12.out.next hb13)
                have HX13 := Lib.hid (HX12.out.next hb13)
                have hy13 := old_below HY12.out hb13
                have HY13 := Lib.hid hy13
                have HYC13 : Hid (RepB w13 (fun q => q < W12.heap.size) t.conf (.slice yca t.conf.length ycc)) := Lib.hid (HYC12.out.same (fun _ h => h) fun q hq => hb13.block q hq)
                have HYB13 : Hid (RepB w13 (fun q => q < W12.heap.size) t.body (.slice yba t.body.length ybc)) := Lib.hid (HYB12.out.same (fun _ h => h) fun q hq => hb13.block q hq)
                have HZ13 : Hid (W12.heap.size ≤ w13.heap.size) := Lib.hid hb13.size
                obtain ⟨hl1, hl2, hl3, p7, m7, q7, n7, h7, h8, h9⟩ := HL13.out
                obtain ⟨e0, e1, e2, e3, f0, f1, f2, f3, ez⟩ := sh_four h7
                obtain ⟨y0, y1, y2, y3, -, -, -, -, yz⟩ := sh_four hy13
                have hgy1 : gl ≠ gy := by have := HLY.out.1; omega
                have hgy2 : gy ≠ gl := by have := HLY.out.1; omega
                clear hb13 c0 c1 c2 c3 cz hy13
                cases hsm : sameSn t xx with
                | false =>
                  clear hsm
                  have hsame := Same6_any t t (.slice yca t.conf.length ycc) (.slice yba t.body.length ybc) (.slice p7 t.conf.length m7) (.slice q7 t.body.length n7) (fun q => q < w13.heap.size) w13 (HYC13.out.weak fun q hq => Nat.lt_of_lt_of_le hq HZ13.out) (HYB13.out.weak fun q hq => Nat.lt_of_lt_of_le hq HZ13.out) (h8.weak fun q hq => hq.1) (h9.weak fun q hq => hq.1) (fun _ h => h)
                  rw [(sameSn_iff t t).2 rfl] at hsame
                  have HSM2 := Lib.hid hsame
                  unfold snAgg at HSM2
                  clear hsame h7 h8 h9 hl1 hl2 hl3
                  go_wp2_with fail
                  refine HSM2.out.mono ?_
                  rintro e w14 ⟨rfl, hb14⟩
                  have HE := Lib.hid (And.intro (H13.out.next hb14) (HL13.out.next hb14))
                  clear hb14 e0 e1 e2 e3 f0 f1 f2 f3 ez y0 y1 y2 y3 yz
                  go_wp2_with fail
                  go_roundw
                  case rel => exact ⟨k + 1, by have := HLT.out; omega, by go_num, X9, gs2, d9, t, rfl, by rw [show 2 * ((k + 1 : Nat) : Int) = 2 * (k : Int) + 2 by omega], by rw [HBT.out], HE.out.1, HI9.out, ⟨HTB.out.1, by have := HTB.out.2; omega⟩, HE.out.2⟩
                  case measure => have := HLT.out; simp [intOf]; omega
                | true =>
                  have hteq := (sameSn_iff t xx).1 hsm
                  have HTE := Lib.hid hteq
                  obtain ⟨-, -, -, p8, m8, q8, n8, h10, hxc, hxb⟩ := HX13.out
                  rw [← hteq] at h10 hxc hxb
                  have hcx := HX13.out
                  obtain ⟨c0, c1, c2, c3, -, -, -, -, cz⟩ := sh_four h10
                  have HL14 := Lib.hid (HL13.out.put (y := t) (fun q hq => hq) (hxc.weak fun q hq => ⟨hq.1, hq.2.1, hq.2.2.1, hq.2.2.2.1⟩) (hxb.weak fun q hq => ⟨hq.1, hq.2.1, hq.2.2.1, hq.2.2.2.1⟩))
                  have H14 := Lib.hid (H13.out.set4 (a' := t.idx) (b' := t.term) (p' := p8) (m' := t.conf.length) (c' := m8) (q' := q8) (n' := t.body.length) (e' := n8) hl1 hl2 hl3 h7)
                  have ho14 : Only (fun q => q = gl) w13 ((((w13.setCell ⟨gl, 0, none⟩ (.int .i64 t.idx)).setCell ⟨gl, 1, none⟩ (.int .i64 t.term)).setCell ⟨gl, 2, none⟩ (.slice p8 t.conf.length m8)).setCell ⟨gl, 3, none⟩ (.slice q8 t.body.length n8)) :=
                    ((((Only.refl (fun q => q = gl) w13).set (.inl rfl) _).set (.inl rfl) _).set (.inl rfl) _).set (.inl rfl) _
                  obtain ⟨W14, hW14⟩ : ∃ W14, W14 = (((w13.setCell ⟨gl, 0, none⟩ (.int .i64 t.idx)).setCell ⟨gl, 1, none⟩ (.int .i64 t.term)).setCell ⟨gl, 2, none⟩ (.slice p8 t.conf.length m8)).setCell ⟨gl, 3, none⟩ (.slice q8 t.body.length n8) := ⟨_, rfl⟩
                  rw [← hW14] at HL14 H14 ho14
                  have HW14 := Lib.hid hW14
                  have hgz := snap_apart h7
                  have rY : ∀ {l : List UInt8} {v : Value}, RepB w13 (fun q => q < W12.heap.size) l v → RepB W14 (fun q => q < W14.heap.size) l v := fun {l v} h => by
                    rw [hW14]
                    have k1 : (w13.setCell ⟨gl, 0, none⟩ (.int .i64 t.idx)).heap[gl]? = some (.cells #[.int .i64 t.idx, .int .i64 t.term, .slice p7 t.conf.length m7, .slice q7 t.body.length n7] 53) := by simp [World.setCell, Array.getElem?_modify, h7]
                    have k2 : ((w13.setCell ⟨gl, 0, none⟩ (.int .i64 t.idx)).setCell ⟨gl, 1, none⟩ (.int .i64 t.term)).heap[gl]? = some (.cells #[.int .i64 t.idx, .int .i64 t.term, .slice p7 t.conf.length m7, .slice q7 t.body.length n7] 53) := by simp [World.setCell, Array.getElem?_modify, h7]
                    have k3 : (((w13.setCell ⟨gl, 0, none⟩ (.int .i64 t.idx)).setCell ⟨gl, 1, none⟩ (.int .i64 t.term)).setCell ⟨gl, 2, none⟩ (.slice p8 t.conf.length m8)).heap[gl]? = some (.cells #[.int .i64 t.idx, .int .i64 t.term, .slice p8 t.conf.length m8, .slice q7 t.body.length n7] 53) := by simp [World.setCell, Array.getElem?_modify, h7]
                    exact ((((h.set hgz).set (snap_apart k1)).set (snap_apart k2)).set (snap_apart k3)).weak fun q hq => by
                      have := HZ13.out
                      simp only [World.size_setCell]
                      omega
                  have hsame := Same6_any t t (.slice yca t.conf.length ycc) (.slice yba t.body.length ybc) (.slice p8 t.conf.length m8) (.slice q8 t.body.length n8) (fun q => q < W14.heap.size) W14 (rY HYC13.out) (rY HYB13.out) (hxc.same (fun q hq => Nat.lt_of_lt_of_le hq.1 ho14.size) fun q hq => ho14.block q hq.1 hq.2.2.2.1) (hxb.same (fun q hq => Nat.lt_of_lt_of_le hq.1 ho14.size) fun q hq => ho14.block q hq.1 hq.2.2.2.1) (fun _ h => h)
                  rw [(sameSn_iff t t).2 rfl] at hsame
                  have HSM2 := Lib.hid hsame
                  unfold snAgg at HSM2
                  clear hsame h7 h8 h9 hl1 hl2 hl3 h10 hxc hxb hcx ho14 hW14 hgz rY hteq hsm
                  go_wp2_with fail
                  rw [← HW14.out]
                  refine HSM2.out.mono ?_
                  rintro e w15 ⟨rfl, hb15⟩
                  have HE := Lib.hid (And.intro (H14.out.next hb15) (HL14.out.next hb15))
                  clear hb15 c0 c1 c2 c3 cz e0 e1 e2 e3 f0 f1 f2 f3 ez y0 y1 y2 y3 yz
                  go_wp2_with fail
                  go_roundw
                  case rel => exact ⟨k + 1, by have := HLT.out; omega, by go_num, X9, gs2, d9, t, rfl, by rw [show 2 * ((k + 1 : Nat) : Int) = 2 * (k : Int) + 2 by omega], by rw [HBT.out], HE.out.1, HI9.out, ⟨HTB.out.1, by have := HTB.out.2; omega⟩, HE.out.2⟩
                  case measure => have := HLT.out; simp [intOf]; omega
              | false =>
                have HBT := Lib.hid hb
                clear hb
                go_wp2_with fail
                refine (H8.out.crash keep (fun q => q < w.heap.size) _ (HV2.out.same (fun q hq => HF.out q hq) fun q hq => (HB0.out.trans (H8.out.ds.below.mono HB0.out.size)).block q (HF.out q hq)) (fun q hq => ⟨Nat.lt_of_lt_of_le hq (Nat.le_trans HB0.out.size H8.out.ds.below.size), fun hx => (by have := H8.out.ds.own q hx; have := HB0.out.size; omega)⟩)).mono ?_
                rintro e w9 ⟨rfl, X9, hx9, h9, ho9⟩
                have HI9 := Lib.hid (HIT8.out.crash H8.out.ds.well keep)
                have HL9 := Lib.hid (HLT8.out.call (ho9.mono fun q hq => .inl hq) hx9 (.inl rfl))
                have HX9 := Lib.hid (HX8.out.call (ho9.mono fun q hq => .inl hq) hx9 (.inl rfl))
                have H9 := Lib.hid h9.ds
                obtain ⟨d9, hd9⟩ : ∃ d9, d9 = (D.crash d8 keep).2 := ⟨_, rfl⟩
                rw [← hd9] at HI9 H9
                clear hd9 hx9 h9 ho9
                go_wp2_with fail
                refine (ShOpen_any d9 X9 gd w0 w9 H9.out (by have := HI9.out.used; omega) HT0).mono ?_
                rintro e w10 ⟨gs2, rfl, h10, hb10, hg10⟩
                rw [HI9.out.new] at h10
                have H10 := Lib.hid h10
                have HL10 := Lib.hid (HL9.out.call (Only.of_below hb10) (fun q hq => .inl hq) (.inr hg10))
                have HX10 := Lib.hid (HX9.out.call (Only.of_below hb10) (fun q hq => .inl hq) (.inr hg10))
                clear h10 hb10 hg10
                go_wp2_with fail
                refine (ShTop_any d9 X9 gd gs2 t w0 w10 H10.out HI9.out.zero).mono ?_
                rintro e w11 ⟨yc, yb, rfl, hb11, hyc, hyb⟩
                rw [HBT.out]
                obtain ⟨yca, ycc, rfl, -⟩ := hyc.slice
                obtain ⟨yba, ybc, rfl, -⟩ := hyb.slice
                have HYC : Hid (RepB w11 (fun q => q < w11.heap.size) t.conf (.slice yca t.conf.length ycc)) := Lib.hid (hyc.weak fun q hq => hq.2)
                have HYB : Hid (RepB w11 (fun q => q < w11.heap.size) t.body (.slice yba t.body.length ybc)) := Lib.hid (hyb.weak fun q hq => hq.2)
                have hb12 := below_alloc w11 (.cells #[.int .i64 t.idx, .int .i64 t.term, .slice yca t.conf.length ycc, .slice yba t.body.length ybc] 53)
                have hy12 : (w11.alloc (.cells #[.int .i64 t.idx, .int .i64 t.term, .slice yca t.conf.length ycc, .slice yba t.body.length ybc] 53)).heap[w11.heap.size]? = some (.cells #[.int .i64 t.idx, .int .i64 t.term, .slice yca t.conf.length ycc, .slice yba t.body.length ybc] 53) := heap_new _ _ _ rfl
                obtain ⟨W12, hW12⟩ : ∃ W12, W12 = w11.alloc (.cells #[.int .i64 t.idx, .int .i64 t.term, .slice yca t.conf.length ycc, .slice yba t.body.length ybc] 53) := ⟨_, rfl⟩
                rw [← hW12] at hb12 hy12
                have hb102 := hb11.trans (hb12.mono hb11.size)
                have HX11 := Lib.hid (HX10.out.next hb11)
                have HL11 := Lib.hid (HL10.out.next hb11)
                have H12 := Lib.hid (H10.out.next hb102)
                have HL12 := Lib.hid (HL10.out.next hb102)
                have HX12 := Lib.hid (HX10.out.next hb102)
                have HYC12 : Hid (RepB W12 (fun q => q < W12.heap.size) t.conf (.slice yca t.conf.length ycc)) := Lib.hid (HYC.out.same (fun q hq => Nat.lt_of_lt_of_le hq hb12.size) fun q hq => hb12.block q hq)
                have HYB12 : Hid (RepB W12 (fun q => q < W12.heap.size) t.body (.slice yba t.body.length ybc)) := Lib.hid (HYB.out.same (fun q hq => Nat.lt_of_lt_of_le hq hb12.size) fun q hq => hb12.block q hq)
                obtain ⟨gy, hgy⟩ : ∃ gy, gy = w11.heap.size := ⟨_, rfl⟩
                rw [← hgy] at hy12
                have HGY := Lib.hid hgy
                have HY12 := Lib.hid hy12
                have HLY : Hid (gl < gy ∧ gy < W12.heap.size) := Lib.hid ⟨by obtain ⟨-, -, -, p, m, q, n, h4, -, -⟩ := HL10.out; have := lt_of_heap h4; have := hb11.size; omega, lt_of_heap hy12⟩
                have HW12 := Lib.hid hW12
                unfold snAgg
                clear hb11 hyc hyb hb12 hy12 hb102 hgy hW12
                simp only
                obtain ⟨-, -, -, p6, m6, q6, n6, h4, hxc, hxb⟩ := HL12.out
                have h4' : w11.heap[gl]? = some (.cells #[.int .i64 t.idx, .int .i64 t.term, .slice p6 t.conf.length m6, .slice q6 t.body.length n6] 53) := by
                  obtain ⟨-, -, -, p, m, q, n, h9, -, -⟩ := HL11.out
                  rw [HW12.out, Below.heap_alloc _ _ _ (lt_of_heap h9)] at h4
                  exact h4
                obtain ⟨c0, c1, c2, c3, -, -, -, -, cz⟩ := sh_four h4'
                have hsame := Same6_any t t (.slice yca t.conf.length ycc) (.slice yba t.body.length ybc) (.slice p6 t.conf.length m6) (.slice q6 t.body.length n6) (fun q => q < W12.heap.size) W12 HYC12.out HYB12.out (hxc.weak fun q hq => hq.1) (hxb.weak fun q hq => hq.1) (fun _ h => h)
                rw [(sameSn_iff t t).2 rfl] at hsame
                have HSM := Lib.hid hsame
                unfold snAgg at HSM
                clear hxc hxb h4 h4' hsame
                go_wp2_with fail
                rw [← HW12.out, ← HGY.out]
                refine HSM.out.mono ?_
                rintro e w13 ⟨rfl, hb13⟩
                have HE := Lib.hid (And.intro (H12.out.next hb13) (HL12.out.next hb13))
                clear hb13 c0 c1 c2 c3 cz
                go_wp2_with fail
                go_roundw
                case rel => exact ⟨k + 1, by have := HLT.out; omega, by go_num, X9, gs2, d9, t, rfl, by rw [show 2 * ((k + 1 : Nat) : Int) = 2 * (k : Int) + 2 by omega], by rw [HBT.out], HE.out.1, HI9.out, ⟨HTB.out.1, by have := HTB.out.2; omega⟩, HE.out.2⟩
                case measure => have := HLT.out; simp [intOf]; omega
          · obtain ⟨w3, hw3⟩ : ∃ w3, w3 = wr := ⟨_, rfl⟩
            obtain ⟨d3, hd3⟩ : ∃ d3, d3 = d := ⟨_, rfl⟩
            subst hw3 hd3
            have H3 := HSS
            have HI3 := HINV
            have HL3 := HLST
            have HB3 : Hid (Below w.heap.size w w3) := HBW
            go_wp2_with fail
            obtain ⟨xx, hxx⟩ : ∃ xx : Sn, xx = ⟨2 * (k : Int) + 2, 1 + (k : Int) / 3, [UInt8.ofNat k], B⟩ := ⟨_, rfl⟩
            obtain ⟨W5, hW5⟩ : ∃ W5, W5 = (w3.alloc (.cells #[.int .u8 (k : Int)] 5)).alloc (.cells #[.int .i64 (2 * (k : Int) + 2), .int .i64 (1 + (k : Int) / 3), .slice (some ⟨w3.heap.size, 0, none⟩) 1 1, .slice bua bn buc] 53) := ⟨_, rfl⟩
            rw [← hW5]
            have hb5 : Below w3.heap.size w3 W5 := by rw [hW5]; exact ((Below.refl _ w3).alloc (Nat.le_refl _) _).alloc (by simp) _
            have H5 := Lib.hid (H3.out.next hb5)
            have HL5 := Lib.hid (HL3.out.next hb5)
            obtain ⟨bx, hbx⟩ : ∃ bx, bx = w3.heap.size + 1 := ⟨_, rfl⟩
            have HGX : Hid (gl < bx) := Lib.hid (by have := HL3.out.2.2.2; obtain ⟨p, m, q, n, h4, -⟩ := this; have := lt_of_heap h4; omega)
            have hgs3 := H3.out.lt
            have hXl3 := H3.out.ds.lt
            have hXo3 := H3.out.ds.own
            have hgn3 := H3.out.new
            have hgl3 := HL3.out.1
            have hw03 := HB0.out.size
            have HX5 : Hid (LstAt w0 X gs bx (fun q => q ≠ gl ∧ q ≠ bx) xx W5) := Lib.hid (by
              have h9 : (W5.heap[bx]? = some (.cells #[.int .i64 (2 * (k : Int) + 2), .int .i64 (1 + (k : Int) / 3), .slice (some ⟨w3.heap.size, 0, none⟩) 1 1, .slice bua bn buc] 53)) := by rw [hW5, hbx]; exact heap_new _ _ _ (by simp)
              have hc9 : RepB W5 (fun q => q < W5.heap.size ∧ ¬ X q ∧ q ≠ gs ∧ q ≠ gl ∧ q ≠ bx) [UInt8.ofNat k] (.slice (some ⟨w3.heap.size, 0, none⟩) 1 1) := by
                refine .inr ⟨w3.heap.size, 0, 1, rfl, ⟨by rw [hW5]; simp; omega, fun hx => (by have := hXl3 _ hx; omega), by omega, (by have := HGX.out; obtain ⟨p, m, q, n, h4, -⟩ := HL3.out.2.2.2; have := lt_of_heap h4; omega), by omega⟩, Nat.le_refl _, by omega, fun i hi => ?_⟩
                obtain rfl : i = 0 := by simpa using hi
                have h8 : W5.heap[w3.heap.size]? = some (.cells #[.int .u8 (k : Int)] 5) := by rw [hW5]; exact old_alloc (heap_new _ _ _ rfl)
                have h7 := cell_of_row W5 w3.heap.size 0 _ _ _ h8
                rw [Nat.zero_add, h7]
                simp only [List.getElem_cons_zero, UInt8.toNat_ofNat']
                rw [Nat.mod_eq_of_lt (by omega)]
                rfl
              have hb9 : RepB W5 (fun q => q < W5.heap.size ∧ ¬ X q ∧ q ≠ gs ∧ q ≠ gl ∧ q ≠ bx) B (.slice bua bn buc) := (HV0.out.elem k HLT.out).elim fun b0 h => by
                obtain ⟨o0, u0, e0, hFb, hcb, hrb⟩ := h
                cases e0
                have hcw : w.cell? ⟨bb, boff + k, none⟩ = some (.slice bua bn buc) := (HBW.out.cell (p := ⟨bb, boff + k, none⟩) hbz).symm.trans hbc
                rw [hcw] at hcb
                cases hcb
                have hrb : RepB w F B (.slice bua bn buc) := by rw [HBB.out]; exact hrb
                refine hrb.same (fun q hq => ?_) fun q hq => (hb5.block q (Nat.lt_of_lt_of_le (HF.out q hq) HB3.out.size)).trans (HB3.out.block q (HF.out q hq))
                have hq2 := HF.out q hq
                exact ⟨Nat.lt_of_lt_of_le hq2 (Nat.le_trans HB3.out.size hb5.size), fun hx => (by have := hXo3 q hx; omega), by omega, by omega, (by have := HB3.out.size; omega)⟩
              refine ⟨by omega, fun hx => (by have := hXl3 _ hx; omega), by omega, some ⟨w3.heap.size, 0, none⟩, 1, bua, buc, ?_, ?_, ?_⟩
              · rw [hxx]
                simp only [List.length_singleton]
                rw [← HBN.out]
                exact h9
              · rw [hxx]
                exact hc9
              · rw [hxx]
                simp only
                rw [← HBN.out]
                exact hb9)
            have hxe : xx.idx = 2 * (k : Int) + 2 := by rw [hxx]
            have hxi : 1 ≤ xx.idx ∧ top.idx < xx.idx ∧ xx.idx = 2 * (k : Int) + 2 := by have := HTOP.out; exact ⟨by omega, by omega, hxe⟩
            obtain ⟨r6, d6, hp6, hout6⟩ := HI3.out.put H3.out.ds.well (x := xx) (by omega) (by rw [hxx]; exact okSn_true (by simp only; omega)) hxi.2.1 (by rw [hxx]; simp only [List.length_singleton]; rw [← HBN.out]; omega)
            have hu3 := HI3.out.used
            have HC6 : Hid (Calls Tryz.prog 31 #[.pointer (some ⟨gs, 0, none⟩), .agg #[.int .i64 (2 * (k : Int) + 2), .int .i64 (1 + (k : Int) / 3), .slice (some ⟨w3.heap.size, 0, none⟩) 1 1, .slice bua bn buc]] W5 fun e w' => e = .returned (.int .i64 r6) ∧ ∃ X', (∀ k, X' k → X k ∨ W5.heap.size ≤ k) ∧ SS w0 X' gd gs d6 (if r6 = 0 then xx else top) w' ∧ Only (fun k => X k ∨ k = gs) W5 w') := Lib.hid (by
              obtain ⟨-, -, -, p, m, q, n, h4, h5, h6⟩ := HX5.out
              have h9 : (W5.heap[bx]? = some (.cells #[.int .i64 (2 * (k : Int) + 2), .int .i64 (1 + (k : Int) / 3), .slice (some ⟨w3.heap.size, 0, none⟩) 1 1, .slice bua bn buc] 53)) := by rw [hW5, hbx]; exact heap_new _ _ _ (by simp)
              rw [h9] at h4
              have he := h4
              simp only [Option.some.injEq, Obj.cells.injEq, Array.mk.injEq, List.cons.injEq, Value.int.injEq, and_true, true_and] at he
              have hcall := H5.out.put (x := xx) h5 h6 (fun q hq => ⟨hq.1, hq.2.1⟩) (by rw [hxx]; simp only [List.length_singleton]; rw [← HBN.out]; omega) (by omega) HT0 HP0 hp6
              unfold snAgg at hcall
              rw [← he.1, ← he.2.1, ← he.2.2.1, ← he.2.2.2] at hcall
              exact hcall)
            have HXI := Lib.hid hxi
            have HBX := Lib.hid hbx
            clear hxi hxe hu3 hXl3 hXo3 hgs3 hgn3 hgl3 hw03 hp6 hbx hxx hW5 hb5
            refine HC6.out.mono ?_
            rintro e w6 ⟨rfl, X6, hx6, h6, ho6⟩
            have HL6 := Lib.hid (HL5.out.call ho6 hx6 (.inl rfl))
            have HX6 := Lib.hid (HX5.out.call ho6 hx6 (.inl rfl))
            rw [← HBX.out]
            have HI6A : Hid ((r6 = 0 ∧ Inv6 d6 xx (k + 1)) ∨ (r6 = 32 ∧ Inv6 d6 top (k + 1))) := Lib.hid hout6
            clear hx6 ho6
            rcases hout6 with ⟨rfl, hi6⟩ | ⟨rfl, hi6⟩
            · rw [if_pos rfl] at h6
              have H6 := Lib.hid h6
              have HI6 := Lib.hid hi6
              obtain ⟨-, -, -, p6, m6, q6, n6, h4, hxc, hxb⟩ := HX6.out
              obtain ⟨hl1, hl2, hl3, p7, m7, q7, n7, h7, -, -⟩ := HL6.out
              obtain ⟨c0, c1, c2, c3, -, -, -, -, cz⟩ := sh_four h4
              obtain ⟨e0, e1, e2, e3, f0, f1, f2, f3, ez⟩ := sh_four h7
              have HL7 := Lib.hid (HL6.out.put (y := xx) (fun q hq => hq) (hxc.weak fun q hq => ⟨hq.1, hq.2.1, hq.2.2.1, hq.2.2.2.1⟩) (hxb.weak fun q hq => ⟨hq.1, hq.2.1, hq.2.2.1, hq.2.2.2.1⟩))
              have H7 := Lib.hid (H6.out.set4 (a' := xx.idx) (b' := xx.term) (p' := p6) (m' := xx.conf.length) (c' := m6) (q' := q6) (n' := xx.body.length) (e' := n6) hl1 hl2 hl3 h7)
              have ho7 : Only (fun q => q = gl) w6 ((((w6.setCell ⟨gl, 0, none⟩ (.int .i64 xx.idx)).setCell ⟨gl, 1, none⟩ (.int .i64 xx.term)).setCell ⟨gl, 2, none⟩ (.slice p6 xx.conf.length m6)).setCell ⟨gl, 3, none⟩ (.slice q6 xx.body.length n6)) :=
                ((((Only.refl (fun q => q = gl) w6).set (.inl rfl) _).set (.inl rfl) _).set (.inl rfl) _).set (.inl rfl) _
              have HX7 := Lib.hid (HX6.out.far ho7 (by have := HGX.out; omega) fun q hq => hq.1)
              obtain ⟨W7, hW7⟩ : ∃ W7, W7 = (((w6.setCell ⟨gl, 0, none⟩ (.int .i64 xx.idx)).setCell ⟨gl, 1, none⟩ (.int .i64 xx.term)).setCell ⟨gl, 2, none⟩ (.slice p6 xx.conf.length m6)).setCell ⟨gl, 3, none⟩ (.slice q6 xx.body.length n6) := ⟨_, rfl⟩
              rw [← hW7] at HL7 H7 HX7
              have HW7 := Lib.hid hW7
              clear hxc hxb hl1 hl2 hl3 h4 h7 ho7 hW7 h6 hi6
              go_wp2_with fail
              rw [← HW7.out]
              obtain ⟨r8, d8, hc8, hr8, hi8⟩ := HI6.out.clean H7.out.ds.well
              have hcl := ShClean_any d6 X6 gd gs xx w0 W7 H7.out (by have := HI6.out.used; omega)
              rw [hc8] at hcl
              refine hcl.mono ?_
              clear hcl c0 c1 c2 c3 cz e0 e1 e2 e3 f0 f1 f2 f3 ez
              rintro e w8 ⟨rfl, X8, hx8, h8, ho8⟩
              have HI8 := Lib.hid hi8
              have HL8 := Lib.hid (HL7.out.call ho8 hx8 (.inl rfl))
              have HX8 := Lib.hid (HX7.out.call ho8 hx8 (.inl rfl))
              have H8 := Lib.hid h8
              clear hc8 hx8 ho8 h8 hi8
              rcases hr8 with rfl | rfl
              · simp only
                go_wp2_with fail
                go_roundw
                case rel => exact ⟨k + 1, by have := HLT.out; omega, by go_num, X8, gs, d8, xx, rfl, by rw [show 2 * ((k + 1 : Nat) : Int) = 2 * (k : Int) + 2 by omega], by rw [show (xx.idx != 0) = true by have := HXI.out; simp; omega], H8.out, HI8.out, ⟨by have := HXI.out; omega, by have := HXI.out; omega⟩, HL8.out⟩
                case measure => have := HLT.out; simp [intOf]; omega
              · obtain ⟨t, ht⟩ : ∃ t, t = xx := ⟨_, rfl⟩
                have HBT : Hid ((t.idx != 0) = true) := Lib.hid (by rw [ht]; have := HXI.out; simp; omega)
                have HTB : Hid (0 ≤ t.idx ∧ t.idx ≤ 2 * (k : Int) + 2) := Lib.hid (by rw [ht]; have := HXI.out; omega)
                have HLT8 : Hid (LstAt w0 X8 gs gl (fun q => q ≠ gl) t w8) := by rw [ht]; exact HL8
                have HIT8 : Hid (Inv6 d8 t (k + 1)) := by rw [ht]; exact HI8
                clear ht
                simp only
                go_wp2_with fail
                refine (H8.out.crash keep (fun q => q < w.heap.size) _ (HV2.out.same (fun q hq => HF.out q hq) fun q hq => (HB0.out.trans (H8.out.ds.below.mono HB0.out.size)).block q (HF.out q hq)) (fun q hq => ⟨Nat.lt_of_lt_of_le hq (Nat.le_trans HB0.out.size H8.out.ds.below.size), fun hx => (by have := H8.out.ds.own q hx; have := HB0.out.size; omega)⟩)).mono ?_
                rintro e w9 ⟨rfl, X9, hx9, h9, ho9⟩
                have HI9 := Lib.hid (HIT8.out.crash H8.out.ds.well keep)
                have HL9 := Lib.hid (HLT8.out.call (ho9.mono fun q hq => .inl hq) hx9 (.inl rfl))
                have HX9 := Lib.hid (HX8.out.call (ho9.mono fun q hq => .inl hq) hx9 (.inl rfl))
                have H9 := Lib.hid h9.ds
                obtain ⟨d9, hd9⟩ : ∃ d9, d9 = (D.crash d8 keep).2 := ⟨_, rfl⟩
                rw [← hd9] at HI9 H9
                clear hd9 hx9 h9 ho9
                go_wp2_with fail
                refine (ShOpen_any d9 X9 gd w0 w9 H9.out (by have := HI9.out.used; omega) HT0).mono ?_
                rintro e w10 ⟨gs2, rfl, h10, hb10, hg10⟩
                rw [HI9.out.new] at h10
                have H10 := Lib.hid h10
                have HL10 := Lib.hid (HL9.out.call (Only.of_below hb10) (fun q hq => .inl hq) (.inr hg10))
                have HX10 := Lib.hid (HX9.out.call (Only.of_below hb10) (fun q hq => .inl hq) (.inr hg10))
                clear h10 hb10 hg10
                go_wp2_with fail
                refine (ShTop_any d9 X9 gd gs2 t w0 w10 H10.out HI9.out.zero).mono ?_
                rintro e w11 ⟨yc, yb, rfl, hb11, hyc, hyb⟩
                rw [HBT.out]
                obtain ⟨yca, ycc, rfl, -⟩ := hyc.slice
                obtain ⟨yba, ybc, rfl, -⟩ := hyb.slice
                have HYC : Hid (RepB w11 (fun q => q < w11.heap.size) t.conf (.slice yca t.conf.length ycc)) := Lib.hid (hyc.weak fun q hq => hq.2)
                have HYB : Hid (RepB w11 (fun q => q < w11.heap.size) t.body (.slice yba t.body.length ybc)) := Lib.hid (hyb.weak fun q hq => hq.2)
                have hb12 := below_alloc w11 (.cells #[.int .i64 t.idx, .int .i64 t.term, .slice yca t.conf.length ycc, .slice yba t.body.length ybc] 53)
                have hy12 : (w11.alloc (.cells #[.int .i64 t.idx, .int .i64 t.term, .slice yca t.conf.length ycc, .slice yba t.body.length ybc] 53)).heap[w11.heap.size]? = some (.cells #[.int .i64 t.idx, .int .i64 t.term, .slice yca t.conf.length ycc, .slice yba t.body.length ybc] 53) := heap_new _ _ _ rfl
                obtain ⟨W12, hW12⟩ : ∃ W12, W12 = w11.alloc (.cells #[.int .i64 t.idx, .int .i64 t.term, .slice yca t.conf.length ycc, .slice yba t.body.length ybc] 53) := ⟨_, rfl⟩
                rw [← hW12] at hb12 hy12
                have hb102 := hb11.trans (hb12.mono hb11.size)
                have HX11 := Lib.hid (HX10.out.next hb11)
                have HL11 := Lib.hid (HL10.out.next hb11)
                have H12 := Lib.hid (H10.out.next hb102)
                have HL12 := Lib.hid (HL10.out.next hb102)
                have HX12 := Lib.hid (HX10.out.next hb102)
                have HYC12 : Hid (RepB W12 (fun q => q < W12.heap.size) t.conf (.slice yca t.conf.length ycc)) := Lib.hid (HYC.out.same (fun q hq => Nat.lt_of_lt_of_le hq hb12.size) fun q hq => hb12.block q hq)
                have HYB12 : Hid (RepB W12 (fun q => q < W12.heap.size) t.body (.slice yba t.body.length ybc)) := Lib.hid (HYB.out.same (fun q hq => Nat.lt_of_lt_of_le hq hb12.size) fun q hq => hb12.block q hq)
                obtain ⟨gy, hgy⟩ : ∃ gy, gy = w11.heap.size := ⟨_, rfl⟩
                rw [← hgy] at hy12
                have HGY := Lib.hid hgy
                have HY12 := Lib.hid hy12
                have HLY : Hid (gl < gy ∧ gy < W12.heap.size) := Lib.hid ⟨by obtain ⟨-, -, -, p, m, q, n, h4, -, -⟩ := HL10.out; have := lt_of_heap h4; have := hb11.size; omega, lt_of_heap hy12⟩
                have HW12 := Lib.hid hW12
                unfold snAgg
                clear hb11 hyc hyb hb12 hy12 hb102 hgy hW12
                simp only
                obtain ⟨-, -, -, p6, m6, q6, n6, h4, hxc, hxb⟩ := HX12.out
                have h4' : w11.heap[bx]? = some (.cells #[.int .i64 xx.idx, .int .i64 xx.term, .slice p6 xx.conf.length m6, .slice q6 xx.body.length n6] 53) := by
                  obtain ⟨-, -, -, p, m, q, n, h9, -, -⟩ := HX11.out
                  rw [HW12.out, Below.heap_alloc _ _ _ (lt_of_heap h9)] at h4
                  exact h4
                obtain ⟨c0, c1, c2, c3, -, -, -, -, cz⟩ := sh_four h4'
                have HXC12 : Hid (RepB W12 (fun q => q < W12.heap.size) xx.conf (.slice p6 xx.conf.length m6)) := Lib.hid (hxc.weak fun q hq => hq.1)
                have HXB12 : Hid (RepB W12 (fun q => q < W12.heap.size) xx.body (.slice q6 xx.body.length n6)) := Lib.hid (hxb.weak fun q hq => hq.1)
                have hsame := Same6_any t xx (.slice yca t.conf.length ycc) (.slice yba t.body.length ybc) (.slice p6 xx.conf.length m6) (.slice q6 xx.body.length n6) (fun q => q < W12.heap.size) W12 HYC12.out HYB12.out HXC12.out HXB12.out (fun _ h => h)
                have HSM := Lib.hid hsame
                unfold snAgg at HSM
                clear hxc hxb h4 h4' hsame
                go_wp2_with fail
                rw [← HW12.out, ← HGY.out]
                refine HSM.out.mono ?_
                rintro e w13 ⟨rfl, hb13⟩
                have H13 := Lib.hid (H12.out.next hb13)
                have HL13 := Lib.hid (HL12.out.next hb13)
                have HX13 := Lib.hid (HX12.out.next hb13)
                have hy13 := old_below HY12.out hb13
                have HY13 := Lib.hid hy13
                have HYC13 : Hid (RepB w13 (fun q => q < W12.heap.size) t.conf (.slice yca t.conf.length ycc)) := Lib.hid (HYC12.out.same (fun _ h => h) fun q hq => hb13.block q hq)
                have HYB13 : Hid (RepB w13 (fun q => q < W12.heap.size) t.body (.slice yba t.body.length ybc)) := Lib.hid (HYB12.out.same (fun _ h => h) fun q hq => hb13.block q hq)
                have HZ13 : Hid (W12.heap.size ≤ w13.heap.size) := Lib.hid hb13.size
                obtain ⟨hl1, hl2, hl3, p7, m7, q7, n7, h7, h8, h9⟩ := HL13.out
                obtain ⟨e0, e1, e2, e3, f0, f1, f2, f3, ez⟩ := sh_four h7
                obtain ⟨y0, y1, y2, y3, -, -, -, -, yz⟩ := sh_four hy13
                have hgy1 : gl ≠ gy := by have := HLY.out.1; omega
                have hgy2 : gy ≠ gl := by have := HLY.out.1; omega
                clear hb13 c0 c1 c2 c3 cz hy13
                cases hsm : sameSn t xx with
                | false =>
                  clear hsm
                  have hsame := Same6_any t t (.slice yca t.conf.length ycc) (.slice yba t.body.length ybc) (.slice p7 t.conf.length m7) (.slice q7 t.body.length n7) (fun q => q < w13.heap.size) w13 (HYC13.out.weak fun q hq => Nat.lt_of_lt_of_le hq HZ13.out) (HYB13.out.weak fun q hq => Nat.lt_of_lt_of_le hq HZ13.out) (h8.weak fun q hq => hq.1) (h9.weak fun q hq => hq.1) (fun _ h => h)
                  rw [(sameSn_iff t t).2 rfl] at hsame
                  have HSM2 := Lib.hid hsame
                  unfold snAgg at HSM2
                  clear hsame h7 h8 h9 hl1 hl2 hl3
                  go_wp2_with fail
                  refine HSM2.out.mono ?_
                  rintro e w14 ⟨rfl, hb14⟩
                  have HE := Lib.hid (And.intro (H13.out.next hb14) (HL13.out.next hb14))
                  clear hb14 e0 e1 e2 e3 f0 f1 f2 f3 ez y0 y1 y2 y3 yz
                  go_wp2_with fail
                  go_roundw
                  case rel => exact ⟨k + 1, by have := HLT.out; omega, by go_num, X9, gs2, d9, t, rfl, by rw [show 2 * ((k + 1 : Nat) : Int) = 2 * (k : Int) + 2 by omega], by rw [HBT.out], HE.out.1, HI9.out, ⟨HTB.out.1, by have := HTB.out.2; omega⟩, HE.out.2⟩
                  case measure => have := HLT.out; simp [intOf]; omega
                | true =>
                  have hteq := (sameSn_iff t xx).1 hsm
                  have HTE := Lib.hid hteq
                  obtain ⟨-, -, -, p8, m8, q8, n8, h10, hxc, hxb⟩ := HX13.out
                  rw [← hteq] at h10 hxc hxb
                  have hcx := HX13.out
                  obtain ⟨c0, c1, c2, c3, -, -, -, -, cz⟩ := sh_four h10
                  have HL14 := Lib.hid (HL13.out.put (y := t) (fun q hq => hq) (hxc.weak fun q hq => ⟨hq.1, hq.2.1, hq.2.2.1, hq.2.2.2.1⟩) (hxb.weak fun q hq => ⟨hq.1, hq.2.1, hq.2.2.1, hq.2.2.2.1⟩))
                  have H14 := Lib.hid (H13.out.set4 (a' := t.idx) (b' := t.term) (p' := p8) (m' := t.conf.length) (c' := m8) (q' := q8) (n' := t.body.length) (e' := n8) hl1 hl2 hl3 h7)
                  have ho14 : Only (fun q => q = gl) w13 ((((w13.setCell ⟨gl, 0, none⟩ (.int .i64 t.idx)).setCell ⟨gl, 1, none⟩ (.int .i64 t.term)).setCell ⟨gl, 2, none⟩ (.slice p8 t.conf.length m8)).setCell ⟨gl, 3, none⟩ (.slice q8 t.body.length n8)) :=
                    ((((Only.refl (fun q => q = gl) w13).set (.inl rfl) _).set (.inl rfl) _).set (.inl rfl) _).set (.inl rfl) _
                  obtain ⟨W14, hW14⟩ : ∃ W14, W14 = (((w13.setCell ⟨gl, 0, none⟩ (.int .i64 t.idx)).setCell ⟨gl, 1, none⟩ (.int .i64 t.term)).setCell ⟨gl, 2, none⟩ (.slice p8 t.conf.length m8)).setCell ⟨gl, 3, none⟩ (.slice q8 t.body.length n8) := ⟨_, rfl⟩
                  rw [← hW14] at HL14 H14 ho14
                  have HW14 := Lib.hid hW14
                  have hgz := snap_apart h7
                  have rY : ∀ {l : List UInt8} {v : Value}, RepB w13 (fun q => q < W12.heap.size) l v → RepB W14 (fun q => q < W14.heap.size) l v := fun {l v} h => by
                    rw [hW14]
                    have k1 : (w13.setCell ⟨gl, 0, none⟩ (.int .i64 t.idx)).heap[gl]? = some (.cells #[.int .i64 t.idx, .int .i64 t.term, .slice p7 t.conf.length m7, .slice q7 t.body.length n7] 53) := by simp [World.setCell, Array.getElem?_modify, h7]
                    have k2 : ((w13.setCell ⟨gl, 0, none⟩ (.int .i64 t.idx)).setCell ⟨gl, 1, none⟩ (.int .i64 t.term)).heap[gl]? = some (.cells #[.int .i64 t.idx, .int .i64 t.term, .slice p7 t.conf.length m7, .slice q7 t.body.length n7] 53) := by simp [World.setCell, Array.getElem?_modify, h7]
                    have k3 : (((w13.setCell ⟨gl, 0, none⟩ (.int .i64 t.idx)).setCell ⟨gl, 1, none⟩ (.int .i64 t.term)).setCell ⟨gl, 2, none⟩ (.slice p8 t.conf.length m8)).heap[gl]? = some (.cells #[.int .i64 t.idx, .int .i64 t.term, .slice p8 t.conf.length m8, .slice q7 t.body.length n7] 53) := by simp [World.setCell, Array.getElem?_modify, h7]
                    exact ((((h.set hgz).set (snap_apart k1)).set (snap_apart k2)).set (snap_apart k3)).weak fun q hq => by
                      have := HZ13.out
                      simp only [World.size_setCell]
                      omega
                  have hsame := Same6_any t t (.slice yca t.conf.length ycc) (.slice yba t.body.length ybc) (.slice p8 t.conf.length m8) (.slice q8 t.body.length n8) (fun q => q < W14.heap.size) W14 (rY HYC13.out) (rY HYB13.out) (hxc.same (fun q hq => Nat.lt_of_lt_of_le hq.1 ho14.size) fun q hq => ho14.block q hq.1 hq.2.2.2.1) (hxb.same (fun q hq => Nat.lt_of_lt_of_le hq.1 ho14.size) fun q hq => ho14.block q hq.1 hq.2.2.2.1) (fun _ h => h)
                  rw [(sameSn_iff t t).2 rfl] at hsame
                  have HSM2 := Lib.hid hsame
                  unfold snAgg at HSM2
                  clear hsame h7 h8 h9 hl1 hl2 hl3 h10 hxc hxb hcx ho14 hW14 hgz rY hteq hsm
                  go_wp2_with fail
                  rw [← HW14.out]
                  refine HSM2.out.mono ?_
                  rintro e w15 ⟨rfl, hb15⟩
                  have HE := Lib.hid (And.intro (H14.out.next hb15) (HL14.out.next hb15))
                  clear hb15 c0 c1 c2 c3 cz e0 e1 e2 e3 f0 f1 f2 f3 ez y0 y1 y2 y3 yz
                  go_wp2_with fail
                  go_roundw
                  case rel => exact ⟨k + 1, by have := HLT.out; omega, by go_num, X9, gs2, d9, t, rfl, by rw [show 2 * ((k + 1 : Nat) : Int) = 2 * (k : Int) + 2 by omega], by rw [HBT.out], HE.out.1, HI9.out, ⟨HTB.out.1, by have := HTB.out.2; omega⟩, HE.out.2⟩
                  case measure => have := HLT.out; simp [intOf]; omega
            · rw [if_neg (by simp)] at h6
              have H8 := Lib.hid h6
              have HIT8 := Lib.hid hi6
              have HLT8 := HL6
              have HX8 := HX6
              have HTB : Hid (0 ≤ top.idx ∧ top.idx ≤ 2 * (k : Int) + 2) := Lib.hid (by have := HTOP.out; omega)
              obtain ⟨w8, hw8⟩ : ∃ w8, w8 = w6 := ⟨_, rfl⟩
              obtain ⟨d8, hd8⟩ : ∃ d8, d8 = d6 := ⟨_, rfl⟩
              obtain ⟨X8, hX8⟩ : ∃ X8, X8 = X6 := ⟨_, rfl⟩
              obtain ⟨t, ht⟩ : ∃ t, t = top := ⟨_, rfl⟩
              subst hw8 hd8 hX8 ht
              clear h6 hi6
              cases hb : (t.idx != 0) with
              | true =>
                have HBT := Lib.hid hb
                clear hb
                go_wp2_with fail
                refine (H8.out.crash keep (fun q => q < w.heap.size) _ (HV2.out.same (fun q hq => HF.out q hq) fun q hq => (HB0.out.trans (H8.out.ds.below.mono HB0.out.size)).block q (HF.out q hq)) (fun q hq => ⟨Nat.lt_of_lt_of_le hq (Nat.le_trans HB0.out.size H8.out.ds.below.size), fun hx => (by have := H8.out.ds.own q hx; have := HB0.out.size; omega)⟩)).mono ?_
                rintro e w9 ⟨rfl, X9, hx9, h9, ho9⟩
                have HI9 := Lib.hid (HIT8.out.crash H8.out.ds.well keep)
                have HL9 := Lib.hid (HLT8.out.call (ho9.mono fun q hq => .inl hq) hx9 (.inl rfl))
                have HX9 := Lib.hid (HX8.out.call (ho9.mono fun q hq => .inl hq) hx9 (.inl rfl))
                have H9 := Lib.hid h9.ds
                obtain ⟨d9, hd9⟩ : ∃ d9, d9 = (D.crash d8 keep).2 := ⟨_, rfl⟩
                rw [← hd9] at HI9 H9
                clear hd9 hx9 h9 ho9
                go_wp2_with fail
                refine (ShOpen_any d9 X9 gd w0 w9 H9.out (by have := HI9.out.used; omega) HT0).mono ?_
                rintro e w10 ⟨gs2, rfl, h10, hb10, hg10⟩
                rw [HI9.out.new] at h10
                have H10 := Lib.hid h10
                have HL10 := Lib.hid (HL9.out.call (Only.of_below hb10) (fun q hq => .inl hq) (.inr hg10))
                have HX10 := Lib.hid (HX9.out.call (Only.of_below hb10) (fun q hq => .inl hq) (.inr hg10))
                clear h10 hb10 hg10
                go_wp2_with fail
                refine (ShTop_any d9 X9 gd gs2 t w0 w10 H10.out HI9.out.zero).mono ?_
                rintro e w11 ⟨yc, yb, rfl, hb11, hyc, hyb⟩
                rw [HBT.out]
                obtain ⟨yca, ycc, rfl, -⟩ := hyc.slice
                obtain ⟨yba, ybc, rfl, -⟩ := hyb.slice
                have HYC : Hid (RepB w11 (fun q => q < w11.heap.size) t.conf (.slice yca t.conf.length ycc)) := Lib.hid (hyc.weak fun q hq => hq.2)
                have HYB : Hid (RepB w11 (fun q => q < w11.heap.size) t.body (.slice yba t.body.length ybc)) := Lib.hid (hyb.weak fun q hq => hq.2)
                have hb12 := below_alloc w11 (.cells #[.int .i64 t.idx, .int .i64 t.term, .slice yca t.conf.length ycc, .slice yba t.body.length ybc] 53)
                have hy12 : (w11.alloc (.cells #[.int .i64 t.idx, .int .i64 t.term, .slice yca t.conf.length ycc, .slice yba t.body.length ybc] 53)).heap[w11.heap.size]? = some (.cells #[.int .i64 t.idx, .int .i64 t.term, .slice yca t.conf.length ycc, .slice yba t.body.length ybc] 53) := heap_new _ _ _ rfl
                obtain ⟨W12, hW12⟩ : ∃ W12, W12 = w11.alloc (.cells #[.int .i64 t.idx, .int .i64 t.term, .slice yca t.conf.length ycc, .slice yba t.body.length ybc] 53) := ⟨_, rfl⟩
                rw [← hW12] at hb12 hy12
                have hb102 := hb11.trans (hb12.mono hb11.size)
                have HX11 := Lib.hid (HX10.out.next hb11)
                have HL11 := Lib.hid (HL10.out.next hb11)
                have H12 := Lib.hid (H10.out.next hb102)
                have HL12 := Lib.hid (HL10.out.next hb102)
                have HX12 := Lib.hid (HX10.out.next hb102)
                have HYC12 : Hid (RepB W12 (fun q => q < W12.heap.size) t.conf (.slice yca t.conf.length ycc)) := Lib.hid (HYC.out.same (fun q hq => Nat.lt_of_lt_of_le hq hb12.size) fun q hq => hb12.block q hq)
                have HYB12 : Hid (RepB W12 (fun q => q < W12.heap.size) t.body (.slice yba t.body.length ybc)) := Lib.hid (HYB.out.same (fun q hq => Nat.lt_of_lt_of_le hq hb12.size) fun q hq => hb12.block q hq)
                obtain ⟨gy, hgy⟩ : ∃ gy, gy = w11.heap.size := ⟨_, rfl⟩
                rw [← hgy] at hy12
                have HGY := Lib.hid hgy
                have HY12 := Lib.hid hy12
                have HLY : Hid (gl < gy ∧ gy < W12.heap.size) := Lib.hid ⟨by obtain ⟨-, -, -, p, m, q, n, h4, -, -⟩ := HL10.out; have := lt_of_heap h4; have := hb11.size; omega, lt_of_heap hy12⟩
                have HW12 := Lib.hid hW12
                unfold snAgg
                clear hb11 hyc hyb hb12 hy12 hb102 hgy hW12
                simp only
                obtain ⟨-, -, -, p6, m6, q6, n6, h4, hxc, hxb⟩ := HX12.out
                have h4' : w11.heap[bx]? = some (.cells #[.int .i64 xx.idx, .int .i64 xx.term, .slice p6 xx.conf.length m6, .slice q6 xx.body.length n6] 53) := by
                  obtain ⟨-, -, -, p, m, q, n, h9, -, -⟩ := HX11.out
                  rw [HW12.out, Below.heap_alloc _ _ _ (lt_of_heap h9)] at h4
                  exact h4
                obtain ⟨c0, c1, c2, c3, -, -, -, -, cz⟩ := sh_four h4'
                have HXC12 : Hid (RepB W12 (fun q => q < W12.heap.size) xx.conf (.slice p6 xx.conf.length m6)) := Lib.hid (hxc.weak fun q hq => hq.1)
                have HXB12 : Hid (RepB W12 (fun q => q < W12.heap.size) xx.body (.slice q6 xx.body.length n6)) := Lib.hid (hxb.weak fun q hq => hq.1)
                have hsame := Same6_any t xx (.slice yca t.conf.length ycc) (.slice yba t.body.length ybc) (.slice p6 xx.conf.length m6) (.slice q6 xx.body.length n6) (fun q => q < W12.heap.size) W12 HYC12.out HYB12.out HXC12.out HXB12.out (fun _ h => h)
                have HSM := Lib.hid hsame
                unfold snAgg at HSM
                clear hxc hxb h4 h4' hsame
                go_wp2_with fail
                rw [← HW12.out, ← HGY.out]
                refine HSM.out.mono ?_
                rintro e w13 ⟨rfl, hb13⟩
                have H13 := Lib.hid (H12.out.next hb13)
                have HL13 := Lib.hid (HL12.out.next hb13)
                have HX13 := Lib.hid (HX12.out.next hb13)
                have hy13 := old_below HY12.out hb13
                have HY13 := Lib.hid hy13
                have HYC13 : Hid (RepB w13 (fun q => q < W12.heap.size) t.conf (.slice yca t.conf.length ycc)) := Lib.hid (HYC12.out.same (fun _ h => h) fun q hq => hb13.block q hq)
                have HYB13 : Hid (RepB w13 (fun q => q < W12.heap.size) t.body (.slice yba t.body.length ybc)) := Lib.hid (HYB12.out.same (fun _ h => h) fun q hq => hb13.block q hq)
                have HZ13 : Hid (W12.heap.size ≤ w13.heap.size) := Lib.hid hb13.size
                obtain ⟨hl1, hl2, hl3, p7, m7, q7, n7, h7, h8, h9⟩ := HL13.out
                obtain ⟨e0, e1, e2, e3, f0, f1, f2, f3, ez⟩ := sh_four h7
                obtain ⟨y0, y1, y2, y3, -, -, -, -, yz⟩ := sh_four hy13
                have hgy1 : gl ≠ gy := by have := HLY.out.1; omega
                have hgy2 : gy ≠ gl := by have := HLY.out.1; omega
                clear hb13 c0 c1 c2 c3 cz hy13
                cases hsm : sameSn t xx with
                | false =>
                  clear hsm
                  have hsame := Same6_any t t (.slice yca t.conf.length ycc) (.slice yba t.body.length ybc) (.slice p7 t.conf.length m7) (.slice q7 t.body.length n7) (fun q => q < w13.heap.size) w13 (HYC13.out.weak fun q hq => Nat.lt_of_lt_of_le hq HZ13.out) (HYB13.out.weak fun q hq => Nat.lt_of_lt_of_le hq HZ13.out) (h8.weak fun q hq => hq.1) (h9.weak fun q hq => hq.1) (fun _ h => h)
                  rw [(sameSn_iff t t).2 rfl] at hsame
                  have HSM2 := Lib.hid hsame
                  unfold snAgg at HSM2
                  clear hsame h7 h8 h9 hl1 hl2 hl3
                  go_wp2_with fail
                  refine HSM2.out.mono ?_
                  rintro e w14 ⟨rfl, hb14⟩
                  have HE := Lib.hid (And.intro (H13.out.next hb14) (HL13.out.next hb14))
                  clear hb14 e0 e1 e2 e3 f0 f1 f2 f3 ez y0 y1 y2 y3 yz
                  go_wp2_with fail
                  go_roundw
                  case rel => exact ⟨k + 1, by have := HLT.out; omega, by go_num, X9, gs2, d9, t, rfl, by rw [show 2 * ((k + 1 : Nat) : Int) = 2 * (k : Int) + 2 by omega], by rw [HBT.out], HE.out.1, HI9.out, ⟨HTB.out.1, by have := HTB.out.2; omega⟩, HE.out.2⟩
                  case measure => have := HLT.out; simp [intOf]; omega
                | true =>
                  have hteq := (sameSn_iff t xx).1 hsm
                  have HTE := Lib.hid hteq
                  obtain ⟨-, -, -, p8, m8, q8, n8, h10, hxc, hxb⟩ := HX13.out
                  rw [← hteq] at h10 hxc hxb
                  have hcx := HX13.out
                  obtain ⟨c0, c1, c2, c3, -, -, -, -, cz⟩ := sh_four h10
                  have HL14 := Lib.hid (HL13.out.put (y := t) (fun q hq => hq) (hxc.weak fun q hq => ⟨hq.1, hq.2.1, hq.2.2.1, hq.2.2.2.1⟩) (hxb.weak fun q hq => ⟨hq.1, hq.2.1, hq.2.2.1, hq.2.2.2.1⟩))
                  have H14 := Lib.hid (H13.out.set4 (a' := t.idx) (b' := t.term) (p' := p8) (m' := t.conf.length) (c' := m8) (q' := q8) (n' := t.body.length) (e' := n8) hl1 hl2 hl3 h7)
                  have ho14 : Only (fun q => q = gl) w13 ((((w13.setCell ⟨gl, 0, none⟩ (.int .i64 t.idx)).setCell ⟨gl, 1, none⟩ (.int .i64 t.term)).setCell ⟨gl, 2, none⟩ (.slice p8 t.conf.length m8)).setCell ⟨gl, 3, none⟩ (.slice q8 t.body.length n8)) :=
                    ((((Only.refl (fun q => q = gl) w13).set (.inl rfl) _).set (.inl rfl) _).set (.inl rfl) _).set (.inl rfl) _
                  obtain ⟨W14, hW14⟩ : ∃ W14, W14 = (((w13.setCell ⟨gl, 0, none⟩ (.int .i64 t.idx)).setCell ⟨gl, 1, none⟩ (.int .i64 t.term)).setCell ⟨gl, 2, none⟩ (.slice p8 t.conf.length m8)).setCell ⟨gl, 3, none⟩ (.slice q8 t.body.length n8) := ⟨_, rfl⟩
                  rw [← hW14] at HL14 H14 ho14
                  have HW14 := Lib.hid hW14
                  have hgz := snap_apart h7
                  have rY : ∀ {l : List UInt8} {v : Value}, RepB w13 (fun q => q < W12.heap.size) l v → RepB W14 (fun q => q < W14.heap.size) l v := fun {l v} h => by
                    rw [hW14]
                    have k1 : (w13.setCell ⟨gl, 0, none⟩ (.int .i64 t.idx)).heap[gl]? = some (.cells #[.int .i64 t.idx, .int .i64 t.term, .slice p7 t.conf.length m7, .slice q7 t.body.length n7] 53) := by simp [World.setCell, Array.getElem?_modify, h7]
                    have k2 : ((w13.setCell ⟨gl, 0, none⟩ (.int .i64 t.idx)).setCell ⟨gl, 1, none⟩ (.int .i64 t.term)).heap[gl]? = some (.cells #[.int .i64 t.idx, .int .i64 t.term, .slice p7 t.conf.length m7, .slice q7 t.body.length n7] 53) := by simp [World.setCell, Array.getElem?_modify, h7]
                    have k3 : (((w13.setCell ⟨gl, 0, none⟩ (.int .i64 t.idx)).setCell ⟨gl, 1, none⟩ (.int .i64 t.term)).setCell ⟨gl, 2, none⟩ (.slice p8 t.conf.length m8)).heap[gl]? = some (.cells #[.int .i64 t.idx, .int .i64 t.term, .slice p8 t.conf.length m8, .slice q7 t.body.length n7] 53) := by simp [World.setCell, Array.getElem?_modify, h7]
                    exact ((((h.set hgz).set (snap_apart k1)).set (snap_apart k2)).set (snap_apart k3)).weak fun q hq => by
                      have := HZ13.out
                      simp only [World.size_setCell]
                      omega
                  have hsame := Same6_any t t (.slice yca t.conf.length ycc) (.slice yba t.body.length ybc) (.slice p8 t.conf.length m8) (.slice q8 t.body.length n8) (fun q => q < W14.heap.size) W14 (rY HYC13.out) (rY HYB13.out) (hxc.same (fun q hq => Nat.lt_of_lt_of_le hq.1 ho14.size) fun q hq => ho14.block q hq.1 hq.2.2.2.1) (hxb.same (fun q hq => Nat.lt_of_lt_of_le hq.1 ho14.size) fun q hq => ho14.block q hq.1 hq.2.2.2.1) (fun _ h => h)
                  rw [(sameSn_iff t t).2 rfl] at hsame
                  have HSM2 := Lib.hid hsame
                  unfold snAgg at HSM2
                  clear hsame h7 h8 h9 hl1 hl2 hl3 h10 hxc hxb hcx ho14 hW14 hgz rY hteq hsm
                  go_wp2_with fail
                  rw [← HW14.out]
                  refine HSM2.out.mono ?_
                  rintro e w15 ⟨rfl, hb15⟩
                  have HE := Lib.hid (And.intro (H14.out.next hb15) (HL14.out.next hb15))
                  clear hb15 c0 c1 c2 c3 cz e0 e1 e2 e3 f0 f1 f2 f3 ez y0 y1 y2 y3 yz
                  go_wp2_with fail
                  go_roundw
                  case rel => exact ⟨k + 1, by have := HLT.out; omega, by go_num, X9, gs2, d9, t, rfl, by rw [show 2 * ((k + 1 : Nat) : Int) = 2 * (k : Int) + 2 by omega], by rw [HBT.out], HE.out.1, HI9.out, ⟨HTB.out.1, by have := HTB.out.2; omega⟩, HE.out.2⟩
                  case measure => have := HLT.out; simp [intOf]; omega
              | false =>
                have HBT := Lib.hid hb
                clear hb
                go_wp2_with fail
                refine (H8.out.crash keep (fun q => q < w.heap.size) _ (HV2.out.same (fun q hq => HF.out q hq) fun q hq => (HB0.out.trans (H8.out.ds.below.mono HB0.out.size)).block q (HF.out q hq)) (fun q hq => ⟨Nat.lt_of_lt_of_le hq (Nat.le_trans HB0.out.size H8.out.ds.below.size), fun hx => (by have := H8.out.ds.own q hx; have := HB0.out.size; omega)⟩)).mono ?_
                rintro e w9 ⟨rfl, X9, hx9, h9, ho9⟩
                have HI9 := Lib.hid (HIT8.out.crash H8.out.ds.well keep)
                have HL9 := Lib.hid (HLT8.out.call (ho9.mono fun q hq => .inl hq) hx9 (.inl rfl))
                have HX9 := Lib.hid (HX8.out.call (ho9.mono fun q hq => .inl hq) hx9 (.inl rfl))
                have H9 := Lib.hid h9.ds
                obtain ⟨d9, hd9⟩ : ∃ d9, d9 = (D.crash d8 keep).2 := ⟨_, rfl⟩
                rw [← hd9] at HI9 H9
                clear hd9 hx9 h9 ho9
                go_wp2_with fail
                refine (ShOpen_any d9 X9 gd w0 w9 H9.out (by have := HI9.out.used; omega) HT0).mono ?_
                rintro e w10 ⟨gs2, rfl, h10, hb10, hg10⟩
                rw [HI9.out.new] at h10
                have H10 := Lib.hid h10
                have HL10 := Lib.hid (HL9.out.call (Only.of_below hb10) (fun q hq => .inl hq) (.inr hg10))
                have HX10 := Lib.hid (HX9.out.call (Only.of_below hb10) (fun q hq => .inl hq) (.inr hg10))
                clear h10 hb10 hg10
                go_wp2_with fail
                refine (ShTop_any d9 X9 gd gs2 t w0 w10 H10.out HI9.out.zero).mono ?_
                rintro e w11 ⟨yc, yb, rfl, hb11, hyc, hyb⟩
                rw [HBT.out]
                obtain ⟨yca, ycc, rfl, -⟩ := hyc.slice
                obtain ⟨yba, ybc, rfl, -⟩ := hyb.slice
                have HYC : Hid (RepB w11 (fun q => q < w11.heap.size) t.conf (.slice yca t.conf.length ycc)) := Lib.hid (hyc.weak fun q hq => hq.2)
                have HYB : Hid (RepB w11 (fun q => q < w11.heap.size) t.body (.slice yba t.body.length ybc)) := Lib.hid (hyb.weak fun q hq => hq.2)
                have hb12 := below_alloc w11 (.cells #[.int .i64 t.idx, .int .i64 t.term, .slice yca t.conf.length ycc, .slice yba t.body.length ybc] 53)
                have hy12 : (w11.alloc (.cells #[.int .i64 t.idx, .int .i64 t.term, .slice yca t.conf.length ycc, .slice yba t.body.length ybc] 53)).heap[w11.heap.size]? = some (.cells #[.int .i64 t.idx, .int .i64 t.term, .slice yca t.conf.length ycc, .slice yba t.body.length ybc] 53) := heap_new _ _ _ rfl
                obtain ⟨W12, hW12⟩ : ∃ W12, W12 = w11.alloc (.cells #[.int .i64 t.idx, .int .i64 t.term, .slice yca t.conf.length ycc, .slice yba t.body.length ybc] 53) := ⟨_, rfl⟩
                rw [← hW12] at hb12 hy12
                have hb102 := hb11.trans (hb12.mono hb11.size)
                have HX11 := Lib.hid (HX10.out.next hb11)
                have HL11 := Lib.hid (HL10.out.next hb11)
                have H12 := Lib.hid (H10.out.next hb102)
                have HL12 := Lib.hid (HL10.out.next hb102)
                have HX12 := Lib.hid (HX10.out.next hb102)
                have HYC12 : Hid (RepB W12 (fun q => q < W12.heap.size) t.conf (.slice yca t.conf.length ycc)) := Lib.hid (HYC.out.same (fun q hq => Nat.lt_of_lt_of_le hq hb12.size) fun q hq => hb12.block q hq)
                have HYB12 : Hid (RepB W12 (fun q => q < W12.heap.size) t.body (.slice yba t.body.length ybc)) := Lib.hid (HYB.out.same (fun q hq => Nat.lt_of_lt_of_le hq hb12.size) fun q hq => hb12.block q hq)
                obtain ⟨gy, hgy⟩ : ∃ gy, gy = w11.heap.size := ⟨_, rfl⟩
                rw [← hgy] at hy12
                have HGY := Lib.hid hgy
                have HY12 := Lib.hid hy12
                have HLY : Hid (gl < gy ∧ gy < W12.heap.size) := Lib.hid ⟨by obtain ⟨-, -, -, p, m, q, n, h4, -, -⟩ := HL10.out; have := lt_of_heap h4; have := hb11.size; omega, lt_of_heap hy12⟩
                have HW12 := Lib.hid hW12
                unfold snAgg
                clear hb11 hyc hyb hb12 hy12 hb102 hgy hW12
                simp only
                obtain ⟨-, -, -, p6, m6, q6, n6, h4, hxc, hxb⟩ := HL12.out
                have h4' : w11.heap[gl]? = some (.cells #[.int .i64 t.idx, .int .i64 t.term, .slice p6 t.conf.length m6, .slice q6 t.body.length n6] 53) := by
                  obtain ⟨-, -, -, p, m, q, n, h9, -, -⟩ := HL11.out
                  rw [HW12.out, Below.heap_alloc _ _ _ (lt_of_heap h9)] at h4
                  exact h4
                obtain ⟨c0, c1, c2, c3, -, -, -, -, cz⟩ := sh_four h4'
                have hsame := Same6_any t t (.slice yca t.conf.length ycc) (.slice yba t.body.length ybc) (.slice p6 t.conf.length m6) (.slice q6 t.body.length n6) (fun q => q < W12.heap.size) W12 HYC12.out HYB12.out (hxc.weak fun q hq => hq.1) (hxb.weak fun q hq => hq.1) (fun _ h => h)
                rw [(sameSn_iff t t).2 rfl] at hsame
                have HSM := Lib.hid hsame
                unfold snAgg at HSM
                clear hxc hxb h4 h4' hsame
                go_wp2_with fail
                rw [← HW12.out, ← HGY.out]
                refine HSM.out.mono ?_
                rintro e w13 ⟨rfl, hb13⟩
                have HE := Lib.hid (And.intro (H12.out.next hb13) (HL12.out.next hb13))
                clear hb13 c0 c1 c2 c3 cz
                go_wp2_with fail
                go_roundw
                case rel => exact ⟨k + 1, by have := HLT.out; omega, by go_num, X9, gs2, d9, t, rfl, by rw [show 2 * ((k + 1 : Nat) : Int) = 2 * (k : Int) + 2 by omega], by rw [HBT.out], HE.out.1, HI9.out, ⟨HTB.out.1, by have := HTB.out.2; omega⟩, HE.out.2⟩
                case measure => have := HLT.out; simp [intOf]; omega
          · go_wp2_with fail
            refine (HSS.out.stop (x % 8) (by omega)).mono ?_
            rintro e w3 ⟨rfl, h3, ho3, hz3⟩
            have H3 := Lib.hid h3
            have HI3 := Lib.hid (HINV.out.stop (x % 8))
            have HL3 := Lib.hid (HLST.out.call (ho3.mono fun q hq => .inl hq) (fun q hq => .inl hq) (.inl rfl))
            have HB3 : Hid (Below w.heap.size w w3) := Lib.hid (HB0.out.trans (h3.ds.below.mono HB0.out.size))
            obtain ⟨d3, hd3⟩ : ∃ d3, D.stop d (x % 8) = d3 := ⟨_, rfl⟩
            rw [hd3] at H3 HI3
            have hbz4 : bb < w3.heap.size := by omega
            have hbc4 : w3.cell? ⟨bb, boff + k, none⟩ = some (.slice bua bn buc) := (HB3.out.cell (p := ⟨bb, boff + k, none⟩) hbz).trans ((HBW.out.cell (p := ⟨bb, boff + k, none⟩) hbz).symm.trans hbc)
            clear hd3 h3 ho3 hz3
            go_wp2_with fail
            obtain ⟨xx, hxx⟩ : ∃ xx : Sn, xx = ⟨2 * (k : Int) + 2, 1 + (k : Int) / 3, [UInt8.ofNat k], B⟩ := ⟨_, rfl⟩
            obtain ⟨W5, hW5⟩ : ∃ W5, W5 = (w3.alloc (.cells #[.int .u8 (k : Int)] 5)).alloc (.cells #[.int .i64 (2 * (k : Int) + 2), .int .i64 (1 + (k : Int) / 3), .slice (some ⟨w3.heap.size, 0, none⟩) 1 1, .slice bua bn buc] 53) := ⟨_, rfl⟩
            rw [← hW5]
            have hb5 : Below w3.heap.size w3 W5 := by rw [hW5]; exact ((Below.refl _ w3).alloc (Nat.le_refl _) _).alloc (by simp) _
            have H5 := Lib.hid (H3.out.next hb5)
            have HL5 := Lib.hid (HL3.out.next hb5)
            obtain ⟨bx, hbx⟩ : ∃ bx, bx = w3.heap.size + 1 := ⟨_, rfl⟩
            have HGX : Hid (gl < bx) := Lib.hid (by have := HL3.out.2.2.2; obtain ⟨p, m, q, n, h4, -⟩ := this; have := lt_of_heap h4; omega)
            have hgs3 := H3.out.lt
            have hXl3 := H3.out.ds.lt
            have hXo3 := H3.out.ds.own
            have hgn3 := H3.out.new
            have hgl3 := HL3.out.1
            have hw03 := HB0.out.size
            have HX5 : Hid (LstAt w0 X gs bx (fun q => q ≠ gl ∧ q ≠ bx) xx W5) := Lib.hid (by
              have h9 : (W5.heap[bx]? = some (.cells #[.int .i64 (2 * (k : Int) + 2), .int .i64 (1 + (k : Int) / 3), .slice (some ⟨w3.heap.size, 0, none⟩) 1 1, .slice bua bn buc] 53)) := by rw [hW5, hbx]; exact heap_new _ _ _ (by simp)
              have hc9 : RepB W5 (fun q => q < W5.heap.size ∧ ¬ X q ∧ q ≠ gs ∧ q ≠ gl ∧ q ≠ bx) [UInt8.ofNat k] (.slice (some ⟨w3.heap.size, 0, none⟩) 1 1) := by
                refine .inr ⟨w3.heap.size, 0, 1, rfl, ⟨by rw [hW5]; simp; omega, fun hx => (by have := hXl3 _ hx; omega), by omega, (by have := HGX.out; obtain ⟨p, m, q, n, h4, -⟩ := HL3.out.2.2.2; have := lt_of_heap h4; omega), by omega⟩, Nat.le_refl _, by omega, fun i hi => ?_⟩
                obtain rfl : i = 0 := by simpa using hi
                have h8 : W5.heap[w3.heap.size]? = some (.cells #[.int .u8 (k : Int)] 5) := by rw [hW5]; exact old_alloc (heap_new _ _ _ rfl)
                have h7 := cell_of_row W5 w3.heap.size 0 _ _ _ h8
                rw [Nat.zero_add, h7]
                simp only [List.getElem_cons_zero, UInt8.toNat_ofNat']
                rw [Nat.mod_eq_of_lt (by omega)]
                rfl
              have hb9 : RepB W5 (fun q => q < W5.heap.size ∧ ¬ X q ∧ q ≠ gs ∧ q ≠ gl ∧ q ≠ bx) B (.slice bua bn buc) := (HV0.out.elem k HLT.out).elim fun b0 h => by
                obtain ⟨o0, u0, e0, hFb, hcb, hrb⟩ := h
                cases e0
                have hcw : w.cell? ⟨bb, boff + k, none⟩ = some (.slice bua bn buc) := (HBW.out.cell (p := ⟨bb, boff + k, none⟩) hbz).symm.trans hbc
                rw [hcw] at hcb
                cases hcb
                have hrb : RepB w F B (.slice bua bn buc) := by rw [HBB.out]; exact hrb
                refine hrb.same (fun q hq => ?_) fun q hq => (hb5.block q (Nat.lt_of_lt_of_le (HF.out q hq) HB3.out.size)).trans (HB3.out.block q (HF.out q hq))
                have hq2 := HF.out q hq
                exact ⟨Nat.lt_of_lt_of_le hq2 (Nat.le_trans HB3.out.size hb5.size), fun hx => (by have := hXo3 q hx; omega), by omega, by omega, (by have := HB3.out.size; omega)⟩
              refine ⟨by omega, fun hx => (by have := hXl3 _ hx; omega), by omega, some ⟨w3.heap.size, 0, none⟩, 1, bua, buc, ?_, ?_, ?_⟩
              · rw [hxx]
                simp only [List.length_singleton]
                rw [← HBN.out]
                exact h9
              · rw [hxx]
                exact hc9
              · rw [hxx]
                simp only
                rw [← HBN.out]
                exact hb9)
            have hxe : xx.idx = 2 * (k : Int) + 2 := by rw [hxx]
            have hxi : 1 ≤ xx.idx ∧ top.idx < xx.idx ∧ xx.idx = 2 * (k : Int) + 2 := by have := HTOP.out; exact ⟨by omega, by omega, hxe⟩
            obtain ⟨r6, d6, hp6, hout6⟩ := HI3.out.put H3.out.ds.well (x := xx) (by omega) (by rw [hxx]; exact okSn_true (by simp only; omega)) hxi.2.1 (by rw [hxx]; simp only [List.length_singleton]; rw [← HBN.out]; omega)
            have hu3 := HI3.out.used
            have HC6 : Hid (Calls Tryz.prog 31 #[.pointer (some ⟨gs, 0, none⟩), .agg #[.int .i64 (2 * (k : Int) + 2), .int .i64 (1 + (k : Int) / 3), .slice (some ⟨w3.heap.size, 0, none⟩) 1 1, .slice bua bn buc]] W5 fun e w' => e = .returned (.int .i64 r6) ∧ ∃ X', (∀ k, X' k → X k ∨ W5.heap.size ≤ k) ∧ SS w0 X' gd gs d6 (if r6 = 0 then xx else top) w' ∧ Only (fun k => X k ∨ k = gs) W5 w') := Lib.hid (by
              obtain ⟨-, -, -, p, m, q, n, h4, h5, h6⟩ := HX5.out
              have h9 : (W5.heap[bx]? = some (.cells #[.int .i64 (2 * (k : Int) + 2), .int .i64 (1 + (k : Int) / 3), .slice (some ⟨w3.heap.size, 0, none⟩) 1 1, .slice bua bn buc] 53)) := by rw [hW5, hbx]; exact heap_new _ _ _ (by simp)
              rw [h9] at h4
              have he := h4
              simp only [Option.some.injEq, Obj.cells.injEq, Array.mk.injEq, List.cons.injEq, Value.int.injEq, and_true, true_and] at he
              have hcall := H5.out.put (x := xx) h5 h6 (fun q hq => ⟨hq.1, hq.2.1⟩) (by rw [hxx]; simp only [List.length_singleton]; rw [← HBN.out]; omega) (by omega) HT0 HP0 hp6
              unfold snAgg at hcall
              rw [← he.1, ← he.2.1, ← he.2.2.1, ← he.2.2.2] at hcall
              exact hcall)
            have HXI := Lib.hid hxi
            have HBX := Lib.hid hbx
            clear hxi hxe hu3 hXl3 hXo3 hgs3 hgn3 hgl3 hw03 hp6 hbx hxx hW5 hb5
            refine HC6.out.mono ?_
            rintro e w6 ⟨rfl, X6, hx6, h6, ho6⟩
            have HL6 := Lib.hid (HL5.out.call ho6 hx6 (.inl rfl))
            have HX6 := Lib.hid (HX5.out.call ho6 hx6 (.inl rfl))
            rw [← HBX.out]
            have HI6A : Hid ((r6 = 0 ∧ Inv6 d6 xx (k + 1)) ∨ (r6 = 32 ∧ Inv6 d6 top (k + 1))) := Lib.hid hout6
            clear hx6 ho6
            rcases hout6 with ⟨rfl, hi6⟩ | ⟨rfl, hi6⟩
            · rw [if_pos rfl] at h6
              have H6 := Lib.hid h6
              have HI6 := Lib.hid hi6
              obtain ⟨-, -, -, p6, m6, q6, n6, h4, hxc, hxb⟩ := HX6.out
              obtain ⟨hl1, hl2, hl3, p7, m7, q7, n7, h7, -, -⟩ := HL6.out
              obtain ⟨c0, c1, c2, c3, -, -, -, -, cz⟩ := sh_four h4
              obtain ⟨e0, e1, e2, e3, f0, f1, f2, f3, ez⟩ := sh_four h7
              have HL7 := Lib.hid (HL6.out.put (y := xx) (fun q hq => hq) (hxc.weak fun q hq => ⟨hq.1, hq.2.1, hq.2.2.1, hq.2.2.2.1⟩) (hxb.weak fun q hq => ⟨hq.1, hq.2.1, hq.2.2.1, hq.2.2.2.1⟩))
              have H7 := Lib.hid (H6.out.set4 (a' := xx.idx) (b' := xx.term) (p' := p6) (m' := xx.conf.length) (c' := m6) (q' := q6) (n' := xx.body.length) (e' := n6) hl1 hl2 hl3 h7)
              have ho7 : Only (fun q => q = gl) w6 ((((w6.setCell ⟨gl, 0, none⟩ (.int .i64 xx.idx)).setCell ⟨gl, 1, none⟩ (.int .i64 xx.term)).setCell ⟨gl, 2, none⟩ (.slice p6 xx.conf.length m6)).setCell ⟨gl, 3, none⟩ (.slice q6 xx.body.length n6)) :=
                ((((Only.refl (fun q => q = gl) w6).set (.inl rfl) _).set (.inl rfl) _).set (.inl rfl) _).set (.inl rfl) _
              have HX7 := Lib.hid (HX6.out.far ho7 (by have := HGX.out; omega) fun q hq => hq.1)
              obtain ⟨W7, hW7⟩ : ∃ W7, W7 = (((w6.setCell ⟨gl, 0, none⟩ (.int .i64 xx.idx)).setCell ⟨gl, 1, none⟩ (.int .i64 xx.term)).setCell ⟨gl, 2, none⟩ (.slice p6 xx.conf.length m6)).setCell ⟨gl, 3, none⟩ (.slice q6 xx.body.length n6) := ⟨_, rfl⟩
              rw [← hW7] at HL7 H7 HX7
              have HW7 := Lib.hid hW7
              clear hxc hxb hl1 hl2 hl3 h4 h7 ho7 hW7 h6 hi6
              go_wp2_with fail
              rw [← HW7.out]
              obtain ⟨r8, d8, hc8, hr8, hi8⟩ := HI6.out.clean H7.out.ds.well
              have hcl := ShClean_any d6 X6 gd gs xx w0 W7 H7.out (by have := HI6.out.used; omega)
              rw [hc8] at hcl
              refine hcl.mono ?_
              clear hcl c0 c1 c2 c3 cz e0 e1 e2 e3 f0 f1 f2 f3 ez
              rintro e w8 ⟨rfl, X8, hx8, h8, ho8⟩
              have HI8 := Lib.hid hi8
              have HL8 := Lib.hid (HL7.out.call ho8 hx8 (.inl rfl))
              have HX8 := Lib.hid (HX7.out.call ho8 hx8 (.inl rfl))
              have H8 := Lib.hid h8
              clear hc8 hx8 ho8 h8 hi8
              rcases hr8 with rfl | rfl
              · simp only
                go_wp2_with fail
                go_roundw
                case rel => exact ⟨k + 1, by have := HLT.out; omega, by go_num, X8, gs, d8, xx, rfl, by rw [show 2 * ((k + 1 : Nat) : Int) = 2 * (k : Int) + 2 by omega], by rw [show (xx.idx != 0) = true by have := HXI.out; simp; omega], H8.out, HI8.out, ⟨by have := HXI.out; omega, by have := HXI.out; omega⟩, HL8.out⟩
                case measure => have := HLT.out; simp [intOf]; omega
              · obtain ⟨t, ht⟩ : ∃ t, t = xx := ⟨_, rfl⟩
                have HBT : Hid ((t.idx != 0) = true) := Lib.hid (by rw [ht]; have := HXI.out; simp; omega)
                have HTB : Hid (0 ≤ t.idx ∧ t.idx ≤ 2 * (k : Int) + 2) := Lib.hid (by rw [ht]; have := HXI.out; omega)
                have HLT8 : Hid (LstAt w0 X8 gs gl (fun q => q ≠ gl) t w8) := by rw [ht]; exact HL8
                have HIT8 : Hid (Inv6 d8 t (k + 1)) := by rw [ht]; exact HI8
                clear ht
                simp only
                go_wp2_with fail
                refine (H8.out.crash keep (fun q => q < w.heap.size) _ (HV2.out.same (fun q hq => HF.out q hq) fun q hq => (HB0.out.trans (H8.out.ds.below.mono HB0.out.size)).block q (HF.out q hq)) (fun q hq => ⟨Nat.lt_of_lt_of_le hq (Nat.le_trans HB0.out.size H8.out.ds.below.size), fun hx => (by have := H8.out.ds.own q hx; have := HB0.out.size; omega)⟩)).mono ?_
                rintro e w9 ⟨rfl, X9, hx9, h9, ho9⟩
                have HI9 := Lib.hid (HIT8.out.crash H8.out.ds.well keep)
                have HL9 := Lib.hid (HLT8.out.call (ho9.mono fun q hq => .inl hq) hx9 (.inl rfl))
                have HX9 := Lib.hid (HX8.out.call (ho9.mono fun q hq => .inl hq) hx9 (.inl rfl))
                have H9 := Lib.hid h9.ds
                obtain ⟨d9, hd9⟩ : ∃ d9, d9 = (D.crash d8 keep).2 := ⟨_, rfl⟩
                rw [← hd9] at HI9 H9
                clear hd9 hx9 h9 ho9
                go_wp2_with fail
                refine (ShOpen_any d9 X9 gd w0 w9 H9.out (by have := HI9.out.used; omega) HT0).mono ?_
                rintro e w10 ⟨gs2, rfl, h10, hb10, hg10⟩
                rw [HI9.out.new] at h10
                have H10 := Lib.hid h10
                have HL10 := Lib.hid (HL9.out.call (Only.of_below hb10) (fun q hq => .inl hq) (.inr hg10))
                have HX10 := Lib.hid (HX9.out.call (Only.of_below hb10) (fun q hq => .inl hq) (.inr hg10))
                clear h10 hb10 hg10
                go_wp2_with fail
                refine (ShTop_any d9 X9 gd gs2 t w0 w10 H10.out HI9.out.zero).mono ?_
                rintro e w11 ⟨yc, yb, rfl, hb11, hyc, hyb⟩
                rw [HBT.out]
                obtain ⟨yca, ycc, rfl, -⟩ := hyc.slice
                obtain ⟨yba, ybc, rfl, -⟩ := hyb.slice
                have HYC : Hid (RepB w11 (fun q => q < w11.heap.size) t.conf (.slice yca t.conf.length ycc)) := Lib.hid (hyc.weak fun q hq => hq.2)
                have HYB : Hid (RepB w11 (fun q => q < w11.heap.size) t.body (.slice yba t.body.length ybc)) := Lib.hid (hyb.weak fun q hq => hq.2)
                have hb12 := below_alloc w11 (.cells #[.int .i64 t.idx, .int .i64 t.term, .slice yca t.conf.length ycc, .slice yba t.body.length ybc] 53)
                have hy12 : (w11.alloc (.cells #[.int .i64 t.idx, .int .i64 t.term, .slice yca t.conf.length ycc, .slice yba t.body.length ybc] 53)).heap[w11.heap.size]? = some (.cells #[.int .i64 t.idx, .int .i64 t.term, .slice yca t.conf.length ycc, .slice yba t.body.length ybc] 53) := heap_new _ _ _ rfl
                obtain ⟨W12, hW12⟩ : ∃ W12, W12 = w11.alloc (.cells #[.int .i64 t.idx, .int .i64 t.term, .slice yca t.conf.length ycc, .slice yba t.body.length ybc] 53) := ⟨_, rfl⟩
                rw [← hW12] at hb12 hy12
                have hb102 := hb11.trans (hb12.mono hb11.size)
                have HX11 := Lib.hid (HX10.out.next hb11)
                have HL11 := Lib.hid (HL10.out.next hb11)
                have H12 := Lib.hid (H10.out.next hb102)
                have HL12 := Lib.hid (HL10.out.next hb102)
                have HX12 := Lib.hid (HX10.out.next hb102)
                have HYC12 : Hid (RepB W12 (fun q => q < W12.heap.size) t.conf (.slice yca t.conf.length ycc)) := Lib.hid (HYC.out.same (fun q hq => Nat.lt_of_lt_of_le hq hb12.size) fun q hq => hb12.block q hq)
                have HYB12 : Hid (RepB W12 (fun q => q < W12.heap.size) t.body (.slice yba t.body.length ybc)) := Lib.hid (HYB.out.same (fun q hq => Nat.lt_of_lt_of_le hq hb12.size) fun q hq => hb12.block q hq)
                obtain ⟨gy, hgy⟩ : ∃ gy, gy = w11.heap.size := ⟨_, rfl⟩
                rw [← hgy] at hy12
                have HGY := Lib.hid hgy
                have HY12 := Lib.hid hy12
                have HLY : Hid (gl < gy ∧ gy < W12.heap.size) := Lib.hid ⟨by obtain ⟨-, -, -, p, m, q, n, h4, -, -⟩ := HL10.out; have := lt_of_heap h4; have := hb11.size; omega, lt_of_heap hy12⟩
                have HW12 := Lib.hid hW12
                unfold snAgg
                clear hb11 hyc hyb hb12 hy12 hb102 hgy hW12
                simp only
                obtain ⟨-, -, -, p6, m6, q6, n6, h4, hxc, hxb⟩ := HX12.out
                have h4' : w11.heap[bx]? = some (.cells #[.int .i64 xx.idx, .int .i64 xx.term, .slice p6 xx.conf.length m6, .slice q6 xx.body.length n6] 53) := by
                  obtain ⟨-, -, -, p, m, q, n, h9, -, -⟩ := HX11.out
                  rw [HW12.out, Below.heap_alloc _ _ _ (lt_of_heap h9)] at h4
                  exact h4
                obtain ⟨c0, c1, c2, c3, -, -, -, -, cz⟩ := sh_four h4'
                have HXC12 : Hid (RepB W12 (fun q => q < W12.heap.size) xx.conf (.slice p6 xx.conf.length m6)) := Lib.hid (hxc.weak fun q hq => hq.1)
                have HXB12 : Hid (RepB W12 (fun q => q < W12.heap.size) xx.body (.slice q6 xx.body.length n6)) := Lib.hid (hxb.weak fun q hq => hq.1)
                have hsame := Same6_any t xx (.slice yca t.conf.length ycc) (.slice yba t.body.length ybc) (.slice p6 xx.conf.length m6) (.slice q6 xx.body.length n6) (fun q => q < W12.heap.size) W12 HYC12.out HYB12.out HXC12.out HXB12.out (fun _ h => h)
                have HSM := Lib.hid hsame
                unfold snAgg at HSM
                clear hxc hxb h4 h4' hsame
                go_wp2_with fail
                rw [← HW12.out, ← HGY.out]
                refine HSM.out.mono ?_
                rintro e w13 ⟨rfl, hb13⟩
                have H13 := Lib.hid (H12.out.next hb13)
                have HL13 := Lib.hid (HL12.out.next hb13)
                have HX13 := Lib.hid (HX12.out.next hb13)
                have hy13 := old_below HY12.out hb13
                have HY13 := Lib.hid hy13
                have HYC13 : Hid (RepB w13 (fun q => q < W12.heap.size) t.conf (.slice yca t.conf.length ycc)) := Lib.hid (HYC12.out.same (fun _ h => h) fun q hq => hb13.block q hq)
                have HYB13 : Hid (RepB w13 (fun q => q < W12.heap.size) t.body (.slice yba t.body.length ybc)) := Lib.hid (HYB12.out.same (fun _ h => h) fun q hq => hb13.block q hq)
                have HZ13 : Hid (W12.heap.size ≤ w13.heap.size) := Lib.hid hb13.size
                obtain ⟨hl1, hl2, hl3, p7, m7, q7, n7, h7, h8, h9⟩ := HL13.out
                obtain ⟨e0, e1, e2, e3, f0, f1, f2, f3, ez⟩ := sh_four h7
                obtain ⟨y0, y1, y2, y3, -, -, -, -, yz⟩ := sh_four hy13
                have hgy1 : gl ≠ gy := by have := HLY.out.1; omega
                have hgy2 : gy ≠ gl := by have := HLY.out.1; omega
                clear hb13 c0 c1 c2 c3 cz hy13
                cases hsm : sameSn t xx with
                | false =>
                  clear hsm
                  have hsame := Same6_any t t (.slice yca t.conf.length ycc) (.slice yba t.body.length ybc) (.slice p7 t.conf.length m7) (.slice q7 t.body.length n7) (fun q => q < w13.heap.size) w13 (HYC13.out.weak fun q hq => Nat.lt_of_lt_of_le hq HZ13.out) (HYB13.out.weak fun q hq => Nat.lt_of_lt_of_le hq HZ13.out) (h8.weak fun q hq => hq.1) (h9.weak fun q hq => hq.1) (fun _ h => h)
                  rw [(sameSn_iff t t).2 rfl] at hsame
                  have HSM2 := Lib.hid hsame
                  unfold snAgg at HSM2
                  clear hsame h7 h8 h9 hl1 hl2 hl3
                  go_wp2_with fail
                  refine HSM2.out.mono ?_
                  rintro e w14 ⟨rfl, hb14⟩
                  have HE := Lib.hid (And.intro (H13.out.next hb14) (HL13.out.next hb14))
                  clear hb14 e0 e1 e2 e3 f0 f1 f2 f3 ez y0 y1 y2 y3 yz
                  go_wp2_with fail
                  go_roundw
                  case rel => exact ⟨k + 1, by have := HLT.out; omega, by go_num, X9, gs2, d9, t, rfl, by rw [show 2 * ((k + 1 : Nat) : Int) = 2 * (k : Int) + 2 by omega], by rw [HBT.out], HE.out.1, HI9.out, ⟨HTB.out.1, by have := HTB.out.2; omega⟩, HE.out.2⟩
                  case measure => have := HLT.out; simp [intOf]; omega
                | true =>
                  have hteq := (sameSn_iff t xx).1 hsm
                  have HTE := Lib.hid hteq
                  obtain ⟨-, -, -, p8, m8, q8, n8, h10, hxc, hxb⟩ := HX13.out
                  rw [← hteq] at h10 hxc hxb
                  have hcx := HX13.out
                  obtain ⟨c0, c1, c2, c3, -, -, -, -, cz⟩ := sh_four h10
                  have HL14 := Lib.hid (HL13.out.put (y := t) (fun q hq => hq) (hxc.weak fun q hq => ⟨hq.1, hq.2.1, hq.2.2.1, hq.2.2.2.1⟩) (hxb.weak fun q hq => ⟨hq.1, hq.2.1, hq.2.2.1, hq.2.2.2.1⟩))
                  have H14 := Lib.hid (H13.out.set4 (a' := t.idx) (b' := t.term) (p' := p8) (m' := t.conf.length) (c' := m8) (q' := q8) (n' := t.body.length) (e' := n8) hl1 hl2 hl3 h7)
                  have ho14 : Only (fun q => q = gl) w13 ((((w13.setCell ⟨gl, 0, none⟩ (.int .i64 t.idx)).setCell ⟨gl, 1, none⟩ (.int .i64 t.term)).setCell ⟨gl, 2, none⟩ (.slice p8 t.conf.length m8)).setCell ⟨gl, 3, none⟩ (.slice q8 t.body.length n8)) :=
                    ((((Only.refl (fun q => q = gl) w13).set (.inl rfl) _).set (.inl rfl) _).set (.inl rfl) _).set (.inl rfl) _
                  obtain ⟨W14, hW14⟩ : ∃ W14, W14 = (((w13.setCell ⟨gl, 0, none⟩ (.int .i64 t.idx)).setCell ⟨gl, 1, none⟩ (.int .i64 t.term)).setCell ⟨gl, 2, none⟩ (.slice p8 t.conf.length m8)).setCell ⟨gl, 3, none⟩ (.slice q8 t.body.length n8) := ⟨_, rfl⟩
                  rw [← hW14] at HL14 H14 ho14
                  have HW14 := Lib.hid hW14
                  have hgz := snap_apart h7
                  have rY : ∀ {l : List UInt8} {v : Value}, RepB w13 (fun q => q < W12.heap.size) l v → RepB W14 (fun q => q < W14.heap.size) l v := fun {l v} h => by
                    rw [hW14]
                    have k1 : (w13.setCell ⟨gl, 0, none⟩ (.int .i64 t.idx)).heap[gl]? = some (.cells #[.int .i64 t.idx, .int .i64 t.term, .slice p7 t.conf.length m7, .slice q7 t.body.length n7] 53) := by simp [World.setCell, Array.getElem?_modify, h7]
                    have k2 : ((w13.setCell ⟨gl, 0, none⟩ (.int .i64 t.idx)).setCell ⟨gl, 1, none⟩ (.int .i64 t.term)).heap[gl]? = some (.cells #[.int .i64 t.idx, .int .i64 t.term, .slice p7 t.conf.length m7, .slice q7 t.body.length n7] 53) := by simp [World.setCell, Array.getElem?_modify, h7]
                    have k3 : (((w13.setCell ⟨gl, 0, none⟩ (.int .i64 t.idx)).setCell ⟨gl, 1, none⟩ (.int .i64 t.term)).setCell ⟨gl, 2, none⟩ (.slice p8 t.conf.length m8)).heap[gl]? = some (.cells #[.int .i64 t.idx, .int .i64 t.term, .slice p8 t.conf.length m8, .slice q7 t.body.length n7] 53) := by simp [World.setCell, Array.getElem?_modify, h7]
                    exact ((((h.set hgz).set (snap_apart k1)).set (snap_apart k2)).set (snap_apart k3)).weak fun q hq => by
                      have := HZ13.out
                      simp only [World.size_setCell]
                      omega
                  have hsame := Same6_any t t (.slice yca t.conf.length ycc) (.slice yba t.body.length ybc) (.slice p8 t.conf.length m8) (.slice q8 t.body.length n8) (fun q => q < W14.heap.size) W14 (rY HYC13.out) (rY HYB13.out) (hxc.same (fun q hq => Nat.lt_of_lt_of_le hq.1 ho14.size) fun q hq => ho14.block q hq.1 hq.2.2.2.1) (hxb.same (fun q hq => Nat.lt_of_lt_of_le hq.1 ho14.size) fun q hq => ho14.block q hq.1 hq.2.2.2.1) (fun _ h => h)
                  rw [(sameSn_iff t t).2 rfl] at hsame
                  have HSM2 := Lib.hid hsame
                  unfold snAgg at HSM2
                  clear hsame h7 h8 h9 hl1 hl2 hl3 h10 hxc hxb hcx ho14 hW14 hgz rY hteq hsm
                  go_wp2_with fail
                  rw [← HW14.out]
                  refine HSM2.out.mono ?_
                  rintro e w15 ⟨rfl, hb15⟩
                  have HE := Lib.hid (And.intro (H14.out.next hb15) (HL14.out.next hb15))
                  clear hb15 c0 c1 c2 c3 cz e0 e1 e2 e3 f0 f1 f2 f3 ez y0 y1 y2 y3 yz
                  go_wp2_with fail
                  go_roundw
                  case rel => exact ⟨k + 1, by have := HLT.out; omega, by go_num, X9, gs2, d9, t, rfl, by rw [show 2 * ((k + 1 : Nat) : Int) = 2 * (k : Int) + 2 by omega], by rw [HBT.out], HE.out.1, HI9.out, ⟨HTB.out.1, by have := HTB.out.2; omega⟩, HE.out.2⟩
                  case measure => have := HLT.out; simp [intOf]; omega
            · rw [if_neg (by simp)] at h6
              have H8 := Lib.hid h6
              have HIT8 := Lib.hid hi6
              have HLT8 := HL6
              have HX8 := HX6
              have HTB : Hid (0 ≤ top.idx ∧ top.idx ≤ 2 * (k : Int) + 2) := Lib.hid (by have := HTOP.out; omega)
              obtain ⟨w8, hw8⟩ : ∃ w8, w8 = w6 := ⟨_, rfl⟩
              obtain ⟨d8, hd8⟩ : ∃ d8, d8 = d6 := ⟨_, rfl⟩
              obtain ⟨X8, hX8⟩ : ∃ X8, X8 = X6 := ⟨_, rfl⟩
              obtain ⟨t, ht⟩ : ∃ t, t = top := ⟨_, rfl⟩
              subst hw8 hd8 hX8 ht
              clear h6 hi6
              cases hb : (t.idx != 0) with
              | true =>
                have HBT := Lib.hid hb
                clear hb
                go_wp2_with fail
                refine (H8.out.crash keep (fun q => q < w.heap.size) _ (HV2.out.same (fun q hq => HF.out q hq) fun q hq => (HB0.out.trans (H8.out.ds.below.mono HB0.out.size)).block q (HF.out q hq)) (fun q hq => ⟨Nat.lt_of_lt_of_le hq (Nat.le_trans HB0.out.size H8.out.ds.below.size), fun hx => (by have := H8.out.ds.own q hx; have := HB0.out.size; omega)⟩)).mono ?_
                rintro e w9 ⟨rfl, X9, hx9, h9, ho9⟩
                have HI9 := Lib.hid (HIT8.out.crash H8.out.ds.well keep)
                have HL9 := Lib.hid (HLT8.out.call (ho9.mono fun q hq => .inl hq) hx9 (.inl rfl))
                have HX9 := Lib.hid (HX8.out.call (ho9.mono fun q hq => .inl hq) hx9 (.inl rfl))
                have H9 := Lib.hid h9.ds
                obtain ⟨d9, hd9⟩ : ∃ d9, d9 = (D.crash d8 keep).2 := ⟨_, rfl⟩
                rw [← hd9] at HI9 H9
                clear hd9 hx9 h9 ho9
                go_wp2_with fail
                refine (ShOpen_any d9 X9 gd w0 w9 H9.out (by have := HI9.out.used; omega) HT0).mono ?_
                rintro e w10 ⟨gs2, rfl, h10, hb10, hg10⟩
                rw [HI9.out.new] at h10
                have H10 := Lib.hid h10
                have HL10 := Lib.hid (HL9.out.call (Only.of_below hb10) (fun q hq => .inl hq) (.inr hg10))
                have HX10 := Lib.hid (HX9.out.call (Only.of_below hb10) (fun q hq => .inl hq) (.inr hg10))
                clear h10 hb10 hg10
                go_wp2_with fail
                refine (ShTop_any d9 X9 gd gs2 t w0 w10 H10.out HI9.out.zero).mono ?_
                rintro e w11 ⟨yc, yb, rfl, hb11, hyc, hyb⟩
                rw [HBT.out]
                obtain ⟨yca, ycc, rfl, -⟩ := hyc.slice
                obtain ⟨yba, ybc, rfl, -⟩ := hyb.slice
                have HYC : Hid (RepB w11 (fun q => q < w11.heap.size) t.conf (.slice yca t.conf.length ycc)) := Lib.hid (hyc.weak fun q hq => hq.2)
                have HYB : Hid (RepB w11 (fun q => q < w11.heap.size) t.body (.slice yba t.body.length ybc)) := Lib.hid (hyb.weak fun q hq => hq.2)
                have hb12 := below_alloc w11 (.cells #[.int .i64 t.idx, .int .i64 t.term, .slice yca t.conf.length ycc, .slice yba t.body.length ybc] 53)
                have hy12 : (w11.alloc (.cells #[.int .i64 t.idx, .int .i64 t.term, .slice yca t.conf.length ycc, .slice yba t.body.length ybc] 53)).heap[w11.heap.size]? = some (.cells #[.int .i64 t.idx, .int .i64 t.term, .slice yca t.conf.length ycc, .slice yba t.body.length ybc] 53) := heap_new _ _ _ rfl
                obtain ⟨W12, hW12⟩ : ∃ W12, W12 = w11.alloc (.cells #[.int .i64 t.idx, .int .i64 t.term, .slice yca t.conf.length ycc, .slice yba t.body.length ybc] 53) := ⟨_, rfl⟩
                rw [← hW12] at hb12 hy12
                have hb102 := hb11.trans (hb12.mono hb11.size)
                have HX11 := Lib.hid (HX10.out.next hb11)
                have HL11 := Lib.hid (HL10.out.next hb11)
                have H12 := Lib.hid (H10.out.next hb102)
                have HL12 := Lib.hid (HL10.out.next hb102)
                have HX12 := Lib.hid (HX10.out.next hb102)
                have HYC12 : Hid (RepB W12 (fun q => q < W12.heap.size) t.conf (.slice yca t.conf.length ycc)) := Lib.hid (HYC.out.same (fun q hq => Nat.lt_of_lt_of_le hq hb12.size) fun q hq => hb12.block q hq)
                have HYB12 : Hid (RepB W12 (fun q => q < W12.heap.size) t.body (.slice yba t.body.length ybc)) := Lib.hid (HYB.out.same (fun q hq => Nat.lt_of_lt_of_le hq hb12.size) fun q hq => hb12.block q hq)
                obtain ⟨gy, hgy⟩ : ∃ gy, gy = w11.heap.size := ⟨_, rfl⟩
                rw [← hgy] at hy12
                have HGY := Lib.hid hgy
                have HY12 := Lib.hid hy12
                have HLY : Hid (gl < gy ∧ gy < W12.heap.size) := Lib.hid ⟨by obtain ⟨-, -, -, p, m, q, n, h4, -, -⟩ := HL10.out; have := lt_of_heap h4; have := hb11.size; omega, lt_of_heap hy12⟩
                have HW12 := Lib.hid hW12
                unfold snAgg
                clear hb11 hyc hyb hb12 hy12 hb102 hgy hW12
                simp only
                obtain ⟨-, -, -, p6, m6, q6, n6, h4, hxc, hxb⟩ := HX12.out
                have h4' : w11.heap[bx]? = some (.cells #[.int .i64 xx.idx, .int .i64 xx.term, .slice p6 xx.conf.length m6, .slice q6 xx.body.length n6] 53) := by
                  obtain ⟨-, -, -, p, m, q, n, h9, -, -⟩ := HX11.out
                  rw [HW12.out, Below.heap_alloc _ _ _ (lt_of_heap h9)] at h4
                  exact h4
                obtain ⟨c0, c1, c2, c3, -, -, -, -, cz⟩ := sh_four h4'
                have HXC12 : Hid (RepB W12 (fun q => q < W12.heap.size) xx.conf (.slice p6 xx.conf.length m6)) := Lib.hid (hxc.weak fun q hq => hq.1)
                have HXB12 : Hid (RepB W12 (fun q => q < W12.heap.size) xx.body (.slice q6 xx.body.length n6)) := Lib.hid (hxb.weak fun q hq => hq.1)
                have hsame := Same6_any t xx (.slice yca t.conf.length ycc) (.slice yba t.body.length ybc) (.slice p6 xx.conf.length m6) (.slice q6 xx.body.length n6) (fun q => q < W12.heap.size) W12 HYC12.out HYB12.out HXC12.out HXB12.out (fun _ h => h)
                have HSM := Lib.hid hsame
                unfold snAgg at HSM
                clear hxc hxb h4 h4' hsame
                go_wp2_with fail
                rw [← HW12.out, ← HGY.out]
                refine HSM.out.mono ?_
                rintro e w13 ⟨rfl, hb13⟩
                have H13 := Lib.hid (H12.out.next hb13)
                have HL13 := Lib.hid (HL12.out.next hb13)
                have HX13 := Lib.hid (HX12.out.next hb13)
                have hy13 := old_below HY12.out hb13
                have HY13 := Lib.hid hy13
                have HYC13 : Hid (RepB w13 (fun q => q < W12.heap.size) t.conf (.slice yca t.conf.length ycc)) := Lib.hid (HYC12.out.same (fun _ h => h) fun q hq => hb13.block q hq)
                have HYB13 : Hid (RepB w13 (fun q => q < W12.heap.size) t.body (.slice yba t.body.length ybc)) := Lib.hid (HYB12.out.same (fun _ h => h) fun q hq => hb13.block q hq)
                have HZ13 : Hid (W12.heap.size ≤ w13.heap.size) := Lib.hid hb13.size
                obtain ⟨hl1, hl2, hl3, p7, m7, q7, n7, h7, h8, h9⟩ := HL13.out
                obtain ⟨e0, e1, e2, e3, f0, f1, f2, f3, ez⟩ := sh_four h7
                obtain ⟨y0, y1, y2, y3, -, -, -, -, yz⟩ := sh_four hy13
                have hgy1 : gl ≠ gy := by have := HLY.out.1; omega
                have hgy2 : gy ≠ gl := by have := HLY.out.1; omega
                clear hb13 c0 c1 c2 c3 cz hy13
                cases hsm : sameSn t xx with
                | false =>
                  clear hsm
                  have hsame := Same6_any t t (.slice yca t.conf.length ycc) (.slice yba t.body.length ybc) (.slice p7 t.conf.length m7) (.slice q7 t.body.length n7) (fun q => q < w13.heap.size) w13 (HYC13.out.weak fun q hq => Nat.lt_of_lt_of_le hq HZ13.out) (HYB13.out.weak fun q hq => Nat.lt_of_lt_of_le hq HZ13.out) (h8.weak fun q hq => hq.1) (h9.weak fun q hq => hq.1) (fun _ h => h)
                  rw [(sameSn_iff t t).2 rfl] at hsame
                  have HSM2 := Lib.hid hsame
                  unfold snAgg at HSM2
                  clear hsame h7 h8 h9 hl1 hl2 hl3
                  go_wp2_with fail
                  refine HSM2.out.mono ?_
                  rintro e w14 ⟨rfl, hb14⟩
                  have HE := Lib.hid (And.intro (H13.out.next hb14) (HL13.out.next hb14))
                  clear hb14 e0 e1 e2 e3 f0 f1 f2 f3 ez y0 y1 y2 y3 yz
                  go_wp2_with fail
                  go_roundw
                  case rel => exact ⟨k + 1, by have := HLT.out; omega, by go_num, X9, gs2, d9, t, rfl, by rw [show 2 * ((k + 1 : Nat) : Int) = 2 * (k : Int) + 2 by omega], by rw [HBT.out], HE.out.1, HI9.out, ⟨HTB.out.1, by have := HTB.out.2; omega⟩, HE.out.2⟩
                  case measure => have := HLT.out; simp [intOf]; omega
                | true =>
                  have hteq := (sameSn_iff t xx).1 hsm
                  have HTE := Lib.hid hteq
                  obtain ⟨-, -, -, p8, m8, q8, n8, h10, hxc, hxb⟩ := HX13.out
                  rw [← hteq] at h10 hxc hxb
                  have hcx := HX13.out
                  obtain ⟨c0, c1, c2, c3, -, -, -, -, cz⟩ := sh_four h10
                  have HL14 := Lib.hid (HL13.out.put (y := t) (fun q hq => hq) (hxc.weak fun q hq => ⟨hq.1, hq.2.1, hq.2.2.1, hq.2.2.2.1⟩) (hxb.weak fun q hq => ⟨hq.1, hq.2.1, hq.2.2.1, hq.2.2.2.1⟩))
                  have H14 := Lib.hid (H13.out.set4 (a' := t.idx) (b' := t.term) (p' := p8) (m' := t.conf.length) (c' := m8) (q' := q8) (n' := t.body.length) (e' := n8) hl1 hl2 hl3 h7)
                  have ho14 : Only (fun q => q = gl) w13 ((((w13.setCell ⟨gl, 0, none⟩ (.int .i64 t.idx)).setCell ⟨gl, 1, none⟩ (.int .i64 t.term)).setCell ⟨gl, 2, none⟩ (.slice p8 t.conf.length m8)).setCell ⟨gl, 3, none⟩ (.slice q8 t.body.length n8)) :=
                    ((((Only.refl (fun q => q = gl) w13).set (.inl rfl) _).set (.inl rfl) _).set (.inl rfl) _).set (.inl rfl) _
                  obtain ⟨W14, hW14⟩ : ∃ W14, W14 = (((w13.setCell ⟨gl, 0, none⟩ (.int .i64 t.idx)).setCell ⟨gl, 1, none⟩ (.int .i64 t.term)).setCell ⟨gl, 2, none⟩ (.slice p8 t.conf.length m8)).setCell ⟨gl, 3, none⟩ (.slice q8 t.body.length n8) := ⟨_, rfl⟩
                  rw [← hW14] at HL14 H14 ho14
                  have HW14 := Lib.hid hW14
                  have hgz := snap_apart h7
                  have rY : ∀ {l : List UInt8} {v : Value}, RepB w13 (fun q => q < W12.heap.size) l v → RepB W14 (fun q => q < W14.heap.size) l v := fun {l v} h => by
                    rw [hW14]
                    have k1 : (w13.setCell ⟨gl, 0, none⟩ (.int .i64 t.idx)).heap[gl]? = some (.cells #[.int .i64 t.idx, .int .i64 t.term, .slice p7 t.conf.length m7, .slice q7 t.body.length n7] 53) := by simp [World.setCell, Array.getElem?_modify, h7]
                    have k2 : ((w13.setCell ⟨gl, 0, none⟩ (.int .i64 t.idx)).setCell ⟨gl, 1, none⟩ (.int .i64 t.term)).heap[gl]? = some (.cells #[.int .i64 t.idx, .int .i64 t.term, .slice p7 t.conf.length m7, .slice q7 t.body.length n7] 53) := by simp [World.setCell, Array.getElem?_modify, h7]
                    have k3 : (((w13.setCell ⟨gl, 0, none⟩ (.int .i64 t.idx)).setCell ⟨gl, 1, none⟩ (.int .i64 t.term)).setCell ⟨gl, 2, none⟩ (.slice p8 t.conf.length m8)).heap[gl]? = some (.cells #[.int .i64 t.idx, .int .i64 t.term, .slice p8 t.conf.length m8, .slice q7 t.body.length n7] 53) := by simp [World.setCell, Array.getElem?_modify, h7]
                    exact ((((h.set hgz).set (snap_apart k1)).set (snap_apart k2)).set (snap_apart k3)).weak fun q hq => by
                      have := HZ13.out
                      simp only [World.size_setCell]
                      omega
                  have hsame := Same6_any t t (.slice yca t.conf.length ycc) (.slice yba t.body.length ybc) (.slice p8 t.conf.length m8) (.slice q8 t.body.length n8) (fun q => q < W14.heap.size) W14 (rY HYC13.out) (rY HYB13.out) (hxc.same (fun q hq => Nat.lt_of_lt_of_le hq.1 ho14.size) fun q hq => ho14.block q hq.1 hq.2.2.2.1) (hxb.same (fun q hq => Nat.lt_of_lt_of_le hq.1 ho14.size) fun q hq => ho14.block q hq.1 hq.2.2.2.1) (fun _ h => h)
                  rw [(sameSn_iff t t).2 rfl] at hsame
                  have HSM2 := Lib.hid hsame
                  unfold snAgg at HSM2
                  clear hsame h7 h8 h9 hl1 hl2 hl3 h10 hxc hxb hcx ho14 hW14 hgz rY hteq hsm
                  go_wp2_with fail
                  rw [← HW14.out]
                  refine HSM2.out.mono ?_
                  rintro e w15 ⟨rfl, hb15⟩
                  have HE := Lib.hid (And.intro (H14.out.next hb15) (HL14.out.next hb15))
                  clear hb15 c0 c1 c2 c3 cz e0 e1 e2 e3 f0 f1 f2 f3 ez y0 y1 y2 y3 yz
                  go_wp2_with fail
                  go_roundw
                  case rel => exact ⟨k + 1, by have := HLT.out; omega, by go_num, X9, gs2, d9, t, rfl, by rw [show 2 * ((k + 1 : Nat) : Int) = 2 * (k : Int) + 2 by omega], by rw [HBT.out], HE.out.1, HI9.out, ⟨HTB.out.1, by have := HTB.out.2; omega⟩, HE.out.2⟩
                  case measure => have := HLT.out; simp [intOf]; omega
              | false =>
                have HBT := Lib.hid hb
                clear hb
                go_wp2_with fail
                refine (H8.out.crash keep (fun q => q < w.heap.size) _ (HV2.out.same (fun q hq => HF.out q hq) fun q hq => (HB0.out.trans (H8.out.ds.below.mono HB0.out.size)).block q (HF.out q hq)) (fun q hq => ⟨Nat.lt_of_lt_of_le hq (Nat.le_trans HB0.out.size H8.out.ds.below.size), fun hx => (by have := H8.out.ds.own q hx; have := HB0.out.size; omega)⟩)).mono ?_
                rintro e w9 ⟨rfl, X9, hx9, h9, ho9⟩
                have HI9 := Lib.hid (HIT8.out.crash H8.out.ds.well keep)
                have HL9 := Lib.hid (HLT8.out.call (ho9.mono fun q hq => .inl hq) hx9 (.inl rfl))
                have HX9 := Lib.hid (HX8.out.call (ho9.mono fun q hq => .inl hq) hx9 (.inl rfl))
                have H9 := Lib.hid h9.ds
                obtain ⟨d9, hd9⟩ : ∃ d9, d9 = (D.crash d8 keep).2 := ⟨_, rfl⟩
                rw [← hd9] at HI9 H9
                clear hd9 hx9 h9 ho9
                go_wp2_with fail
                refine (ShOpen_any d9 X9 gd w0 w9 H9.out (by have := HI9.out.used; omega) HT0).mono ?_
                rintro e w10 ⟨gs2, rfl, h10, hb10, hg10⟩
                rw [HI9.out.new] at h10
                have H10 := Lib.hid h10
                have HL10 := Lib.hid (HL9.out.call (Only.of_below hb10) (fun q hq => .inl hq) (.inr hg10))
                have HX10 := Lib.hid (HX9.out.call (Only.of_below hb10) (fun q hq => .inl hq) (.inr hg10))
                clear h10 hb10 hg10
                go_wp2_with fail
                refine (ShTop_any d9 X9 gd gs2 t w0 w10 H10.out HI9.out.zero).mono ?_
                rintro e w11 ⟨yc, yb, rfl, hb11, hyc, hyb⟩
                rw [HBT.out]
                obtain ⟨yca, ycc, rfl, -⟩ := hyc.slice
                obtain ⟨yba, ybc, rfl, -⟩ := hyb.slice
                have HYC : Hid (RepB w11 (fun q => q < w11.heap.size) t.conf (.slice yca t.conf.length ycc)) := Lib.hid (hyc.weak fun q hq => hq.2)
                have HYB : Hid (RepB w11 (fun q => q < w11.heap.size) t.body (.slice yba t.body.length ybc)) := Lib.hid (hyb.weak fun q hq => hq.2)
                have hb12 := below_alloc w11 (.cells #[.int .i64 t.idx, .int .i64 t.term, .slice yca t.conf.length ycc, .slice yba t.body.length ybc] 53)
                have hy12 : (w11.alloc (.cells #[.int .i64 t.idx, .int .i64 t.term, .slice yca t.conf.length ycc, .slice yba t.body.length ybc] 53)).heap[w11.heap.size]? = some (.cells #[.int .i64 t.idx, .int .i64 t.term, .slice yca t.conf.length ycc, .slice yba t.body.length ybc] 53) := heap_new _ _ _ rfl
                obtain ⟨W12, hW12⟩ : ∃ W12, W12 = w11.alloc (.cells #[.int .i64 t.idx, .int .i64 t.term, .slice yca t.conf.length ycc, .slice yba t.body.length ybc] 53) := ⟨_, rfl⟩
                rw [← hW12] at hb12 hy12
                have hb102 := hb11.trans (hb12.mono hb11.size)
                have HX11 := Lib.hid (HX10.out.next hb11)
                have HL11 := Lib.hid (HL10.out.next hb11)
                have H12 := Lib.hid (H10.out.next hb102)
                have HL12 := Lib.hid (HL10.out.next hb102)
                have HX12 := Lib.hid (HX10.out.next hb102)
                have HYC12 : Hid (RepB W12 (fun q => q < W12.heap.size) t.conf (.slice yca t.conf.length ycc)) := Lib.hid (HYC.out.same (fun q hq => Nat.lt_of_lt_of_le hq hb12.size) fun q hq => hb12.block q hq)
                have HYB12 : Hid (RepB W12 (fun q => q < W12.heap.size) t.body (.slice yba t.body.length ybc)) := Lib.hid (HYB.out.same (fun q hq => Nat.lt_of_lt_of_le hq hb12.size) fun q hq => hb12.block q hq)
                obtain ⟨gy, hgy⟩ : ∃ gy, gy = w11.heap.size := ⟨_, rfl⟩
                rw [← hgy] at hy12
                have HGY := Lib.hid hgy
                have HY12 := Lib.hid hy12
                have HLY : Hid (gl < gy ∧ gy < W12.heap.size) := Lib.hid ⟨by obtain ⟨-, -, -, p, m, q, n, h4, -, -⟩ := HL10.out; have := lt_of_heap h4; have := hb11.size; omega, lt_of_heap hy12⟩
                have HW12 := Lib.hid hW12
                unfold snAgg
                clear hb11 hyc hyb hb12 hy12 hb102 hgy hW12
                simp only
                obtain ⟨-, -, -, p6, m6, q6, n6, h4, hxc, hxb⟩ := HL12.out
                have h4' : w11.heap[gl]? = some (.cells #[.int .i64 t.idx, .int .i64 t.term, .slice p6 t.conf.length m6, .slice q6 t.body.length n6] 53) := by
                  obtain ⟨-, -, -, p, m, q, n, h9, -, -⟩ := HL11.out
                  rw [HW12.out, Below.heap_alloc _ _ _ (lt_of_heap h9)] at h4
                  exact h4
                obtain ⟨c0, c1, c2, c3, -, -, -, -, cz⟩ := sh_four h4'
                have hsame := Same6_any t t (.slice yca t.conf.length ycc) (.slice yba t.body.length ybc) (.slice p6 t.conf.length m6) (.slice q6 t.body.length n6) (fun q => q < W12.heap.size) W12 HYC12.out HYB12.out (hxc.weak fun q hq => hq.1) (hxb.weak fun q hq => hq.1) (fun _ h => h)
                rw [(sameSn_iff t t).2 rfl] at hsame
                have HSM := Lib.hid hsame
                unfold snAgg at HSM
                clear hxc hxb h4 h4' hsame
                go_wp2_with fail
                rw [← HW12.out, ← HGY.out]
                refine HSM.out.mono ?_
                rintro e w13 ⟨rfl, hb13⟩
                have HE := Lib.hid (And.intro (H12.out.next hb13) (HL12.out.next hb13))
                clear hb13 c0 c1 c2 c3 cz
                go_wp2_with fail
                go_roundw
                case rel => exact ⟨k + 1, by have := HLT.out; omega, by go_num, X9, gs2, d9, t, rfl, by rw [show 2 * ((k + 1 : Nat) : Int) = 2 * (k : Int) + 2 by omega], by rw [HBT.out], HE.out.1, HI9.out, ⟨HTB.out.1, by have := HTB.out.2; omega⟩, HE.out.2⟩
                case measure => have := HLT.out; simp [intOf]; omega
        · have hb1i : (1000 : Int) < (bn : Int) := by omega
          go_wp2_with fail
          go_ret
          exact ⟨rfl, HBW.out⟩
      · have hkk : ¬ (k : Int) < (bodies.length : Int) := by omega
        go_wp2_with fail
        go_ret
        exact ⟨rfl, HBW.out⟩
end Go.Proofs.YtbcpcopapbgcdaaGreatDoor.M

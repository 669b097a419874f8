/- The document's examples of shelves, as law 6's statements begin with them. -/
import Derived.Test.YtbcpcopapbgcdaaGreatDoorSW30
namespace Go.Proofs.YtbcpcopapbgcdaaGreatDoor.M
open Go.RowKit Go.Maps
open D (Fl Dk)

def sA : Sn := ⟨5, 1, [], [97, 98, 99]⟩
def sB : Sn := ⟨5, 2, [], []⟩
def sC : Sn := ⟨9, 1, [], [122]⟩
def z1 : Dk := fresh 1000
def z2 : Dk := (putS z1 Sn.zero sA).2
def z3 : Dk := (putS (D.stop z2 2) sA sC).2
def z4 : Dk := (D.crash z3 []).2

theorem ez_1 : (putS z1 Sn.zero sA).1 = 0 ∧ D.used z2.fs ≤ 1000 := by decide +kernel
theorem ez_b : putS z2 sA sB = (2, z2) := by unfold putS; rw [if_pos (.inr (by decide))]
theorem ez_3 : (putS (D.stop z2 2) sA sC).1 = 32 ∧ D.used z3.fs ≤ 1000 := by decide +kernel
theorem ez_4' : sameSn (newestS z4.fs) sA = true ∧ D.used z4.fs ≤ 1000 := by decide +kernel
theorem ez_4 : newestS z4.fs = sA := (sameSn_iff _ _).1 ez_4'.1
theorem ez_0 : newestS z1.fs = Sn.zero := rfl

theorem eqOf {d' : Dk} {r : Int × Dk} {x : Int} (h1 : r.1 = x) (h2 : d' = r.2) : r = (x, d') := by
  subst h1 h2; rfl

theorem SS.put {w wr : World} {X : Nat → Prop} {gd gs : Nat} {d d' : Dk} {top x : Sn} {r : Int} (h : SS w X gd gs d top wr) {cv bv : Value} {F : Nat → Prop} (hc : RepB wr F x.conf cv) (hb : RepB wr F x.body bv) (hF : ∀ k, F k → k < wr.heap.size ∧ ¬ X k) (hl : x.conf.length + x.body.length ≤ 100000000) (hu : D.used d.fs ≤ 1000000000) (hT : Hid (Tab w)) (hP : Hid (Pow10 w)) (hs : putS d top x = (r, d')) :
    Calls Tryz.prog 31 #[.pointer (some ⟨gs, 0, none⟩), snAgg x cv bv] wr fun e w' => e = .returned (.int .i64 r) ∧ ∃ X', (∀ k, X' k → X k ∨ wr.heap.size ≤ k) ∧ SS w X' gd gs d' (if r = 0 then x else top) w' ∧ Only (fun k => X k ∨ k = gs) wr w' :=
  (ShPut_any d X gd gs top x cv bv F w wr h hc hb hF hl hu hT hP).mono fun e w' hp => by
    unfold ShPost at hp
    rw [hs] at hp
    exact hp

theorem SS.stop {w wr : World} {X : Nat → Prop} {gd gs : Nat} {d : Dk} {top : Sn} (h : SS w X gd gs d top wr) (n : Int) (hn : -9223372036854775808 ≤ n ∧ n ≤ 9223372036854775807) :
    Calls Tryz.prog 38 #[.pointer (some ⟨gd, 0, none⟩), .int .i64 n] wr fun e w' => e = .returned (.tuple #[]) ∧ SS w X gd gs (D.stop d n) top w' ∧ Only X wr w' ∧ w'.heap.size = wr.heap.size :=
  (DStop h.ds n hn).mono fun e w' ⟨he, hd, ho, hz⟩ => ⟨he, h.only ho (fun _ h => .inl h) hd, ho, hz⟩

/-- A disk's crash, the shelf as it was. -/
theorem SS.crash {w wr : World} {X : Nat → Prop} {gd gs : Nat} {d : Dk} {top : Sn} (h : SS w X gd gs d top wr) (ks : List Int) (F : Nat → Prop) (vk : Value) (hv : RepI wr F ks vk) (hF : ∀ k, F k → k < wr.heap.size ∧ ¬ X k) :
    Calls Tryz.prog 17 #[.pointer (some ⟨gd, 0, none⟩), vk] wr fun e w' => e = .returned (.int .i64 (((D.crash d ks).1 : Nat) : Int)) ∧ ∃ X', (∀ k, X' k → X k ∨ wr.heap.size ≤ k) ∧ SS w X' gd gs (D.crash d ks).2 top w' ∧ Only X wr w' :=
  (DCrash h.ds ks F vk hv hF).mono fun e w' ⟨he, ho, X', hx, hd⟩ => ⟨he, X', hx, h.only ho hx hd, ho⟩

set_option maxRecDepth 20000 in
set_option maxHeartbeats 1600000 in
/-- A new disk. -/
theorem newDisk_any (n : Int) (w : World) (h0 : 0 ≤ n) (h1 : n ≤ 9223372036854775807) :
    Calls Tryz.prog 10 #[.int .i64 n] w fun e w' => ∃ gd X, e = .returned (.tuple #[.pointer (some ⟨gd, 0, none⟩), .int .i64 0]) ∧ DS w X gd (fresh n) w' := by
  refine (New_any n w h0).mono ?_
  rintro e w1 ⟨rfl, hb1, hz1, hd1⟩
  exact ⟨w.heap.size + 1, _, rfl, ⟨hb1, fun k hk => hk.1, ⟨hd1, fun k hk => by omega⟩, fresh_well h0 h1⟩⟩

set_option maxRecDepth 20000 in
set_option maxHeartbeats 12800000 in
theorem awake6_any (w : World) (hT : Hid (Tab w)) (hP : Hid (Pow10 w)) : Calls Tryz.prog 22 #[] w fun e w' => e = .returned (.bool true) ∧ Below w.heap.size w w' := by
  go_enter Tryz.func22, Tryz.ntmps22
  go_wp2_with fail
  refine (newDisk_any 1000 w (by omega) (by omega)).mono ?_
  rintro e w1 ⟨gd, X1, rfl, h1⟩
  have H1 : Hid (DS w X1 gd z1 w1) := Lib.hid h1
  clear h1
  go_wp2_with fail
  refine (ShOpen_any z1 X1 gd w w1 H1.out (by decide) hT).mono ?_
  rintro e w2 ⟨gs, rfl, h2, -, -⟩
  rw [ez_0] at h2
  have H2 := Lib.hid h2
  clear h2
  go_wp2_with fail
  refine (Snap_any 5 1 ⟨#[97, 98, 99]⟩ w2 (by decide)).mono ?_
  rintro e w3 ⟨u3, rfl, hb3, hr3⟩
  have H3 := Lib.hid (H2.out.next hb3)
  have HR3 : Hid (RepB w3 (fun k => k < w3.heap.size ∧ ¬ X1 k) [97, 98, 99] u3) := Lib.hid (hr3.weak fun k hk => ⟨hk.2, fun hx => by have := H2.out.ds.lt k hx; omega⟩)
  obtain ⟨ua3, uc3, hu3, -⟩ := HR3.out.slice
  have hu3 : u3 = .slice ua3 3 uc3 := hu3
  subst hu3
  have HC : Hid (Calls Tryz.prog 31 #[.pointer (some ⟨gs, 0, none⟩), .agg #[.int .i64 5, .int .i64 1, .slice none 0 0, .slice ua3 3 uc3]] w3 fun e w' => e = .returned (.int .i64 0) ∧ ∃ X', (∀ k, X' k → X1 k ∨ w3.heap.size ≤ k) ∧ SS w X' gd gs z2 sA w' ∧ Only (fun k => X1 k ∨ k = gs) w3 w') :=
    Lib.hid (H3.out.put (x := sA) (.inl ⟨rfl, Bare.nil⟩) HR3.out (fun _ h => h) (by decide) (by decide) hT hP (eqOf ez_1.1 (rfl : z2 = _)))
  unfold snAgg
  clear hb3 hr3
  go_wp2_with fail
  refine HC.out.mono ?_
  rintro e w4 ⟨rfl, X4, -, h4, -⟩
  have H4 := Lib.hid h4
  clear h4
  go_wp2_with fail
  refine (Snap_any 5 2 ⟨#[]⟩ w4 (by decide)).mono ?_
  rintro e w5 ⟨u5, rfl, hb5, hr5⟩
  have H5 := Lib.hid (H4.out.next hb5)
  have HR5 : Hid (RepB w5 (fun k => k < w5.heap.size ∧ ¬ X4 k) [] u5) := Lib.hid (hr5.weak fun k hk => ⟨hk.2, fun hx => by have := H4.out.ds.lt k hx; omega⟩)
  obtain ⟨ua5, uc5, hu5, -⟩ := HR5.out.slice
  have hu5 : u5 = .slice ua5 0 uc5 := hu5
  subst hu5
  have HC5 : Hid (Calls Tryz.prog 31 #[.pointer (some ⟨gs, 0, none⟩), .agg #[.int .i64 5, .int .i64 2, .slice none 0 0, .slice ua5 0 uc5]] w5 fun e w' => e = .returned (.int .i64 2) ∧ ∃ X', (∀ k, X' k → X4 k ∨ w5.heap.size ≤ k) ∧ SS w X' gd gs z2 sA w' ∧ Only (fun k => X4 k ∨ k = gs) w5 w') :=
    Lib.hid (H5.out.put (x := sB) (.inl ⟨rfl, Bare.nil⟩) HR5.out (fun _ h => h) (by decide) (Nat.le_trans ez_1.2 (by decide)) hT hP ez_b)
  unfold snAgg
  clear hb5 hr5
  go_wp2_with fail
  refine HC5.out.mono ?_
  rintro e w6 ⟨rfl, X6, -, h6, -⟩
  have H6 := Lib.hid h6
  clear h6
  go_wp2_with fail
  refine (ShTop_any z2 X6 gd gs sA w w6 H6.out (fun h => absurd h (by decide))).mono ?_
  rintro e w7 ⟨uc, ub, rfl, hb7, hr7c, hr7b⟩
  have hz67 := hb7.size
  have HRC : Hid (RepB w7 (fun k => k < w7.heap.size ∧ ¬ X6 k ∧ k ≠ gs) [] uc) := Lib.hid (hr7c.weak fun k hk => ⟨hk.2, fun hx => by have := H6.out.ds.lt k hx; omega, by have := H6.out.lt; omega⟩)
  have HRB : Hid (RepB w7 (fun k => k < w7.heap.size ∧ ¬ X6 k ∧ k ≠ gs) [97, 98, 99] ub) := Lib.hid (hr7b.weak fun k hk => ⟨hk.2, fun hx => by have := H6.out.ds.lt k hx; omega, by have := H6.out.lt; omega⟩)
  obtain ⟨uca, ucc, huc, -⟩ := HRC.out.slice
  have huc : uc = .slice uca 0 ucc := huc
  subst huc
  obtain ⟨uba, ubc, hub, -⟩ := HRB.out.slice
  have hub : ub = .slice uba 3 ubc := hub
  subst hub
  have H7 := Lib.hid (H6.out.next hb7)
  unfold snAgg sA
  clear hb7 hr7c hr7b hz67
  simp only
  go_wp2_with fail
  obtain ⟨W8, hW8⟩ : ∃ W8, W8 = w7.alloc (.cells #[.int .i64 5, .int .i64 1, .slice uca 0 ucc, .slice uba 3 ubc] 53) := ⟨_, rfl⟩
  have hb8 : Below w7.heap.size w7 W8 := by rw [hW8]; exact below_alloc _ _
  have HBX : Hid (W8.heap[w7.heap.size]? = some (.cells #[.int .i64 5, .int .i64 1, .slice uca 0 ucc, .slice uba 3 ubc] 53)) := Lib.hid (by rw [hW8]; exact heap_new _ _ _ rfl)
  have H8 := Lib.hid (H7.out.next hb8)
  -- what the snapshot that was handed out lies in
  have HQ : Hid (∀ (X' : Nat → Prop) (w' : World), (∀ k, X' k → X6 k ∨ W8.heap.size ≤ k) → Only (fun k => X6 k ∨ k = gs) W8 w' → W8.heap.size ≤ w'.heap.size ∧ w'.heap[w7.heap.size]? = some (.cells #[.int .i64 5, .int .i64 1, .slice uca 0 ucc, .slice uba 3 ubc] 53) ∧ RepB w' (fun k => k < W8.heap.size) [] (.slice uca 0 ucc) ∧ RepB w' (fun k => k < W8.heap.size) [97, 98, 99] (.slice uba 3 ubc)) := Lib.hid fun X' w' hx ho => by
    have hz := lt_of_heap HBX.out
    have hgs := H7.out.lt
    have hzz := hb8.size
    refine ⟨ho.size, (ho.block _ hz (by rintro (h | h); have := H7.out.ds.lt _ h; omega; omega)).trans HBX.out, ?_, ?_⟩
    · exact HRC.out.same (fun k hk => by omega) fun k hk => (ho.block k (by omega) (by rintro (h | h); exact hk.2.1 h; exact hk.2.2 h)).trans (hb8.block k hk.1)
    · exact HRB.out.same (fun k hk => by omega) fun k hk => (ho.block k (by omega) (by rintro (h | h); exact hk.2.1 h; exact hk.2.2 h)).trans (hb8.block k hk.1)
  rw [← hW8]
  clear hW8 hb8
  refine (H8.out.stop 2 (by omega)).mono ?_
  rintro e w9 ⟨rfl, h9, ho9, -⟩
  have H9 := Lib.hid h9
  have HO9 : Hid (Only (fun k => X6 k ∨ k = gs) W8 w9) := Lib.hid (ho9.mono fun k hk => .inl hk)
  clear h9 ho9
  go_wp2_with fail
  refine (Snap_any 9 1 ⟨#[122]⟩ w9 (by decide)).mono ?_
  rintro e w10 ⟨u10, rfl, hb10, hr10⟩
  have H10 := Lib.hid (H9.out.next hb10)
  have HO10 : Hid (Only (fun k => X6 k ∨ k = gs) W8 w10) := Lib.hid (HO9.out.next hb10)
  have HR10 : Hid (RepB w10 (fun k => k < w10.heap.size ∧ ¬ X6 k) [122] u10) := Lib.hid (hr10.weak fun k hk => ⟨hk.2, fun hx => by have := H9.out.ds.lt k hx; omega⟩)
  obtain ⟨ua10, uc10, hu10, -⟩ := HR10.out.slice
  have hu10 : u10 = .slice ua10 1 uc10 := hu10
  subst hu10
  have HC10 : Hid (Calls Tryz.prog 31 #[.pointer (some ⟨gs, 0, none⟩), .agg #[.int .i64 9, .int .i64 1, .slice none 0 0, .slice ua10 1 uc10]] w10 fun e w' => e = .returned (.int .i64 32) ∧ ∃ X', (∀ k, X' k → X6 k ∨ w10.heap.size ≤ k) ∧ SS w X' gd gs z3 sA w' ∧ Only (fun k => X6 k ∨ k = gs) w10 w') :=
    Lib.hid (H10.out.put (x := sC) (.inl ⟨rfl, Bare.nil⟩) HR10.out (fun _ h => h) (by decide) (Nat.le_trans ez_1.2 (by decide)) hT hP (eqOf ez_3.1 (rfl : z3 = _)))
  unfold snAgg
  clear hb10 hr10
  go_wp2_with fail
  refine HC10.out.mono ?_
  rintro e w11 ⟨rfl, X11, hx11, h11, ho11⟩
  have H11 := Lib.hid h11
  have HO11 : Hid (Only (fun k => X6 k ∨ k = gs) W8 w11) := Lib.hid (HO10.out.thn (fun k hk => .inl hk) ho11)
  have HX11 : Hid (∀ k, X11 k → X6 k ∨ W8.heap.size ≤ k) := Lib.hid fun k hk => by
    rcases hx11 k hk with h | h
    · exact .inl h
    · exact .inr (Nat.le_trans HO10.out.size h)
  clear h11 hx11 ho11
  go_wp2_with fail
  refine (H11.out.crash [] (fun _ => False) _ RepI.nil (fun _ h => h.elim)).mono ?_
  rintro e w12 ⟨rfl, X12, hx12, h12, ho12⟩
  have H12 : Hid (DS w X12 gd z4 w12) := Lib.hid h12.ds
  have HO12 : Hid (Only (fun k => X6 k ∨ k = gs) W8 w12) := Lib.hid (HO11.out.thn (fun k hk => by
    rcases HX11.out k hk with h | h
    · exact .inl (.inl h)
    · exact .inr h) ho12)
  clear h12 hx12 ho12
  go_wp2_with fail
  refine (ShOpen_any z4 X12 gd w w12 H12.out (Nat.le_trans ez_4'.2 (by decide)) hT).mono ?_
  rintro e w13 ⟨gt, rfl, h13, hb13, -⟩
  rw [ez_4] at h13
  have H13 := Lib.hid h13
  have HO13 : Hid (Only (fun k => X6 k ∨ k = gs) W8 w13) := Lib.hid (HO12.out.next hb13)
  clear h13 hb13
  go_wp2_with fail
  refine (ShTop_any z4 X12 gd gt sA w w13 H13.out (fun h => absurd h (by decide))).mono ?_
  rintro e w14 ⟨vc, vb, rfl, hb14, hr14c, hr14b⟩
  have HO14 : Hid (Only (fun k => X6 k ∨ k = gs) W8 w14) := Lib.hid (HO13.out.next hb14)
  have HSC : Hid (RepB w14 (fun k => k < w14.heap.size) [] vc) := Lib.hid (hr14c.weak fun k hk => hk.2)
  have HSB : Hid (RepB w14 (fun k => k < w14.heap.size) [97, 98, 99] vb) := Lib.hid (hr14b.weak fun k hk => hk.2)
  have HB14 : Hid (Below w.heap.size w w14) := Lib.hid (H13.out.ds.below.trans (hb14.mono H13.out.ds.below.size))
  obtain ⟨vca, vcc, hvc, -⟩ := HSC.out.slice
  have hvc : vc = .slice vca 0 vcc := hvc
  subst hvc
  obtain ⟨vba, vbc, hvb, -⟩ := HSB.out.slice
  have hvb : vb = .slice vba 3 vbc := hvb
  subst hvb
  unfold snAgg sA
  clear hb14 hr14c hr14b
  simp only
  go_wp2_with fail
  obtain ⟨W15, hW15⟩ : ∃ W15, W15 = w14.alloc (.cells #[.int .i64 5, .int .i64 1, .slice vca 0 vcc, .slice vba 3 vbc] 53) := ⟨_, rfl⟩
  have hb15 : Below w14.heap.size w14 W15 := by rw [hW15]; exact below_alloc _ _
  have hy15 : W15.heap[w14.heap.size]? = some (.cells #[.int .i64 5, .int .i64 1, .slice vca 0 vcc, .slice vba 3 vbc] 53) := by rw [hW15]; exact heap_new _ _ _ rfl
  obtain ⟨-, hx15, hxc, hxb⟩ := HQ.out (fun _ => False) W15 (fun _ h => h.elim) (HO14.out.next hb15)
  have HXC := Lib.hid hxc
  have HXB := Lib.hid hxb
  have HYC : Hid (RepB W15 (fun k => k < W15.heap.size) [] (.slice vca 0 vcc)) := Lib.hid (HSC.out.same (fun k hk => Nat.lt_of_lt_of_le hk hb15.size) fun k hk => hb15.block k hk)
  have HYB : Hid (RepB W15 (fun k => k < W15.heap.size) [97, 98, 99] (.slice vba 3 vbc)) := Lib.hid (HSB.out.same (fun k hk => Nat.lt_of_lt_of_le hk hb15.size) fun k hk => hb15.block k hk)
  have HB15 : Hid (Below w.heap.size w W15) := Lib.hid (HB14.out.trans (hb15.mono HB14.out.size))
  have HZ8 : Hid (W8.heap.size ≤ W15.heap.size) := Lib.hid (HO14.out.next hb15).size
  obtain ⟨c0, c1, c2, c3, -, -, -, -, cz⟩ := sh_four hx15
  obtain ⟨d0, d1, d2, d3, -, -, -, -, dz⟩ := sh_four hy15
  have p0 : ∀ w', Below W15.heap.size W15 w' → w'.cell? ⟨w7.heap.size, 0, none⟩ = some (.int .i64 5) := fun w' hw' => (hw'.cell cz).trans c0
  have p1 : ∀ w', Below W15.heap.size W15 w' → w'.cell? ⟨w7.heap.size, 1, none⟩ = some (.int .i64 1) := fun w' hw' => (hw'.cell cz).trans c1
  have p2 : ∀ w', Below W15.heap.size W15 w' → w'.cell? ⟨w7.heap.size, 2, none⟩ = some (.slice uca 0 ucc) := fun w' hw' => (hw'.cell cz).trans c2
  have p3 : ∀ w', Below W15.heap.size W15 w' → w'.cell? ⟨w7.heap.size, 3, none⟩ = some (.slice uba 3 ubc) := fun w' hw' => (hw'.cell cz).trans c3
  have q0 : ∀ w', Below W15.heap.size W15 w' → w'.cell? ⟨w14.heap.size, 0, none⟩ = some (.int .i64 5) := fun w' hw' => (hw'.cell dz).trans d0
  have q1 : ∀ w', Below W15.heap.size W15 w' → w'.cell? ⟨w14.heap.size, 1, none⟩ = some (.int .i64 1) := fun w' hw' => (hw'.cell dz).trans d1
  have q2 : ∀ w', Below W15.heap.size W15 w' → w'.cell? ⟨w14.heap.size, 2, none⟩ = some (.slice vca 0 vcc) := fun w' hw' => (hw'.cell dz).trans d2
  have q3 : ∀ w', Below W15.heap.size W15 w' → w'.cell? ⟨w14.heap.size, 3, none⟩ = some (.slice vba 3 vbc) := fun w' hw' => (hw'.cell dz).trans d3
  have hS : Below W15.heap.size W15 W15.drew := (Below.refl _ _).drew
  rw [← hW15]
  clear hW15 hb15 hy15 hx15 hxc hxb c0 c1 c2 c3 d0 d1 d2 d3 cz dz
  refine wp_region_held (S := fun w' => Below W15.heap.size W15 w') (by kernel_rfl) ?_
  refine H_take (i := 0) (v := ?_) rfl (by as_aux_lemma => kernel_rfl) (by as_aux_lemma => kernel_rfl) (by as_aux_lemma => kernel_rfl) (fun _ _ _ h => h) (by rfl) hS ?_ ?_
  rotate_left
  · intro w' hw'; go_simp; with_reducible rfl
  go_simp
  refine H_take (i := 1) (v := ?_) rfl (by as_aux_lemma => kernel_rfl) (by as_aux_lemma => kernel_rfl) (by as_aux_lemma => kernel_rfl) (fun _ _ _ h => h) (by rfl) hS ?_ ?_
  rotate_left
  · intro w' hw'; go_simp; with_reducible rfl
  go_simp
  refine H_take (i := 2) (v := ?_) rfl (by as_aux_lemma => kernel_rfl) (by as_aux_lemma => kernel_rfl) (by as_aux_lemma => kernel_rfl) (fun _ _ _ h => h) (by rfl) hS ?_ ?_
  rotate_left
  · intro w' hw'; go_simp; with_reducible rfl
  go_simp
  refine H_take (i := 3) (v := ?_) rfl (by as_aux_lemma => kernel_rfl) (by as_aux_lemma => kernel_rfl) (by as_aux_lemma => kernel_rfl) (fun _ _ _ h => h) (by rfl) hS ?_ ?_
  rotate_left
  · intro w' hw'; go_simp; with_reducible rfl
  go_simp
  refine H_take (i := 4) (v := ?_) rfl (by as_aux_lemma => kernel_rfl) (by as_aux_lemma => kernel_rfl) (by as_aux_lemma => kernel_rfl) (fun _ _ _ h => h) (by rfl) hS ?_ ?_
  rotate_left
  · intro w' hw'; go_simp; with_reducible rfl
  go_simp
  refine H_take (i := 5) (v := ?_) rfl (by as_aux_lemma => kernel_rfl) (by as_aux_lemma => kernel_rfl) (by as_aux_lemma => kernel_rfl) (fun _ _ _ h => h) (by rfl) hS ?_ ?_
  rotate_left
  · intro w' hw'; go_simp; with_reducible rfl
  go_simp
  refine H_take (i := 6) (v := ?_) rfl (by as_aux_lemma => kernel_rfl) (by as_aux_lemma => kernel_rfl) (by as_aux_lemma => kernel_rfl) (fun _ _ _ h => h) (by rfl) hS ?_ ?_
  rotate_left
  · intro w' hw'; go_simp; with_reducible rfl
  go_simp
  refine H_take (i := 7) (v := ?_) rfl (by as_aux_lemma => kernel_rfl) (by as_aux_lemma => kernel_rfl) (by as_aux_lemma => kernel_rfl) (fun _ _ _ h => h) (by rfl) hS ?_ ?_
  rotate_left
  · intro w' hw'; go_simp; with_reducible rfl
  go_simp
  refine H_take (i := 8) (v := ?_) rfl (by as_aux_lemma => kernel_rfl) (by as_aux_lemma => kernel_rfl) (by as_aux_lemma => kernel_rfl) (fun _ _ _ h => h) (by rfl) hS ?_ ?_
  rotate_left
  · intro w' hw'; go_simp; with_reducible rfl
  go_simp
  refine H_take (i := 9) (v := ?_) rfl (by as_aux_lemma => kernel_rfl) (by as_aux_lemma => kernel_rfl) (by as_aux_lemma => kernel_rfl) (fun _ _ _ h => h) (by rfl) hS ?_ ?_
  rotate_left
  · intro w' hw'; go_simp; with_reducible rfl
  go_simp
  refine H_take (i := 10) (v := ?_) rfl (by as_aux_lemma => kernel_rfl) (by as_aux_lemma => kernel_rfl) (by as_aux_lemma => kernel_rfl) (fun _ _ _ h => h) (by rfl) hS ?_ ?_
  rotate_left
  · intro w' hw'; go_simp; with_reducible rfl
  go_simp
  refine H_take (i := 11) (v := ?_) rfl (by as_aux_lemma => kernel_rfl) (by as_aux_lemma => kernel_rfl) (by as_aux_lemma => kernel_rfl) (fun _ _ _ h => h) (by rfl) hS ?_ ?_
  rotate_left
  · intro w' hw'; go_simp; with_reducible rfl
  go_simp
  refine H_take (i := 12) (v := ?_) rfl (by as_aux_lemma => kernel_rfl) (by as_aux_lemma => kernel_rfl) (by as_aux_lemma => kernel_rfl) (fun _ _ _ h => h) (by rfl) hS ?_ ?_
  rotate_left
  · intro w' hw'; go_simp; with_reducible rfl
  go_simp
  refine H_take (i := 13) (v := ?_) rfl (by as_aux_lemma => kernel_rfl) (by as_aux_lemma => kernel_rfl) (by as_aux_lemma => kernel_rfl) (fun _ _ _ h => h) (by rfl) hS ?_ ?_
  rotate_left
  · intro w' hw'; go_simp; with_reducible rfl
  go_simp
  refine H_take (i := 14) (v := ?_) rfl (by as_aux_lemma => kernel_rfl) (by as_aux_lemma => kernel_rfl) (by as_aux_lemma => kernel_rfl) (fun _ _ _ h => h) (by rfl) hS ?_ ?_
  rotate_left
  · intro w' hw'; go_simp; with_reducible rfl
  go_simp
  refine H_take (i := 15) (v := ?_) rfl (by as_aux_lemma => kernel_rfl) (by as_aux_lemma => kernel_rfl) (by as_aux_lemma => kernel_rfl) (fun _ _ _ h => h) (by rfl) hS ?_ ?_
  rotate_left
  · intro w' hw'; go_simp; with_reducible rfl
  go_simp
  refine H_take (i := 16) (v := ?_) rfl (by as_aux_lemma => kernel_rfl) (by as_aux_lemma => kernel_rfl) (by as_aux_lemma => kernel_rfl) (fun _ _ _ h => h) (by rfl) hS ?_ ?_
  rotate_left
  · intro w' hw'; go_simp; with_reducible rfl
  go_simp
  refine H_take (i := 17) (v := ?_) rfl (by as_aux_lemma => kernel_rfl) (by as_aux_lemma => kernel_rfl) (by as_aux_lemma => kernel_rfl) (fun _ _ _ h => h) (by rfl) hS ?_ ?_
  rotate_left
  · intro w' hw'; go_simp; with_reducible rfl
  go_simp
  refine H_one (i := 18) (by as_aux_lemma => kernel_rfl) rfl (by rfl) ?_
  go_simp
  refine (Snap_any 5 1 ⟨#[97, 98, 99]⟩ W15.drew (by decide)).mono ?_
  rintro e w16 ⟨u16, rfl, hb16, hr16⟩
  have hS16 : Below W15.heap.size W15 w16 := hS.trans hb16
  refine ⟨hS16, ?_⟩
  have HR16 : Hid (RepB w16 (fun k => k < w16.heap.size) [97, 98, 99] u16) := Lib.hid (hr16.weak fun k hk => hk.2)
  obtain ⟨ua16, uc16, hu16, -⟩ := HR16.out.slice
  have hu16 : u16 = .slice ua16 3 uc16 := hu16
  subst hu16
  unfold snAgg
  clear hb16 hr16
  simp only
  refine H_one (i := 19) (by as_aux_lemma => kernel_rfl) rfl (by rfl) ?_
  go_simp
  have hs1 := Same6_any sA ⟨5, 1, [], [97, 98, 99]⟩ (.slice uca 0 ucc) (.slice uba 3 ubc) (.slice none 0 0) (.slice ua16 3 uc16) (fun k => k < w16.heap.size) w16 (HXC.out.same (fun k hk => by have := HZ8.out; have := hS16.size; omega) fun k hk => hS16.block k (by have := HZ8.out; omega)) (HXB.out.same (fun k hk => by have := HZ8.out; have := hS16.size; omega) fun k hk => hS16.block k (by have := HZ8.out; omega)) (.inl ⟨rfl, Bare.nil⟩) HR16.out (fun _ h => h)
  unfold snAgg sA at hs1
  refine hs1.mono ?_
  clear hs1
  rintro e w17 ⟨rfl, hb17⟩
  rw [show sameSn ⟨5, 1, [], [97, 98, 99]⟩ ⟨5, 1, [], [97, 98, 99]⟩ = true from rfl]
  have hS17 : Below W15.heap.size W15 w17 := hS16.trans (hb17.mono hS16.size)
  refine ⟨hS17, ?_⟩
  clear hb17
  refine H_take (i := 20) (v := ?_) rfl (by as_aux_lemma => kernel_rfl) (by as_aux_lemma => kernel_rfl) (by as_aux_lemma => kernel_rfl) (fun _ _ _ h => h) (by rfl) hS17 ?_ ?_
  rotate_left
  · intro w' hw'; go_simp; with_reducible rfl
  go_simp
  refine H_take (i := 21) (v := ?_) rfl (by as_aux_lemma => kernel_rfl) (by as_aux_lemma => kernel_rfl) (by as_aux_lemma => kernel_rfl) (fun _ _ _ h => h) (by rfl) hS17 ?_ ?_
  rotate_left
  · intro w' hw'; go_simp; with_reducible rfl
  go_simp
  refine H_take (i := 22) (v := ?_) rfl (by as_aux_lemma => kernel_rfl) (by as_aux_lemma => kernel_rfl) (by as_aux_lemma => kernel_rfl) (fun _ _ _ h => h) (by rfl) hS17 ?_ ?_
  rotate_left
  · intro w' hw'; go_simp; with_reducible rfl
  go_simp
  refine H_take (i := 23) (v := ?_) rfl (by as_aux_lemma => kernel_rfl) (by as_aux_lemma => kernel_rfl) (by as_aux_lemma => kernel_rfl) (fun _ _ _ h => h) (by rfl) hS17 ?_ ?_
  rotate_left
  · intro w' hw'; go_simp; with_reducible rfl
  go_simp
  refine H_one (i := 24) (by as_aux_lemma => kernel_rfl) rfl (by rfl) ?_
  go_simp
  have hs2 := Same6_any sA sA (.slice vca 0 vcc) (.slice vba 3 vbc) (.slice uca 0 ucc) (.slice uba 3 ubc) (fun k => k < w17.heap.size) w17 (HYC.out.same (fun k hk => Nat.lt_of_lt_of_le hk hS17.size) fun k hk => hS17.block k hk) (HYB.out.same (fun k hk => Nat.lt_of_lt_of_le hk hS17.size) fun k hk => hS17.block k hk) (HXC.out.same (fun k hk => by have := HZ8.out; have := hS17.size; omega) fun k hk => hS17.block k (by have := HZ8.out; omega)) (HXB.out.same (fun k hk => by have := HZ8.out; have := hS17.size; omega) fun k hk => hS17.block k (by have := HZ8.out; omega)) (fun _ h => h)
  unfold snAgg sA at hs2
  refine hs2.mono ?_
  clear hs2
  rintro e w18 ⟨rfl, hb18⟩
  rw [show sameSn ⟨5, 1, [], [97, 98, 99]⟩ ⟨5, 1, [], [97, 98, 99]⟩ = true from rfl]
  have hS18 : Below W15.heap.size W15 w18 := hS17.trans (hb18.mono hS17.size)
  refine ⟨hS18, ?_⟩
  clear hb18
  refine H_take (i := 25) (v := ?_) rfl (by as_aux_lemma => kernel_rfl) (by as_aux_lemma => kernel_rfl) (by as_aux_lemma => kernel_rfl) (fun _ _ _ h => h) (by rfl) hS18 ?_ ?_
  rotate_left
  · intro w' hw'; go_simp; with_reducible rfl
  go_simp
  refine H_take (i := 26) (v := ?_) rfl (by as_aux_lemma => kernel_rfl) (by as_aux_lemma => kernel_rfl) (by as_aux_lemma => kernel_rfl) (fun _ _ _ h => h) (by rfl) hS18 ?_ ?_
  rotate_left
  · intro w' hw'; go_simp; with_reducible rfl
  go_simp
  refine wpAnyH_done (by as_aux_lemma => kernel_rfl) ?_ _
  have HF : Hid (Below w.heap.size w w18) := Lib.hid (HB15.out.trans (hS18.mono HB15.out.size))
  clear hS hS16 hS17 hS18 p0 p1 p2 p3 q0 q1 q2 q3
  go_wp2_with fail
  go_ret
  exact ⟨rfl, HF.out⟩
end Go.Proofs.YtbcpcopapbgcdaaGreatDoor.M

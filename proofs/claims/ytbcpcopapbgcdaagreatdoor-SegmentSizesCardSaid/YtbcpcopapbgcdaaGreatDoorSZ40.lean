/- Package segment: strip. Package segment: mend, where no segment goes and none is torn. Package segment: a log opened over a disk without files. Package segment: CutFrom, where nothing is left to be cut. Package segment: cut. Package segment: CutFrom, where the last segment left is cut. -/
import Derived.Test.YtbcpcopapbgcdaaGreatDoorSZ38
import Derived.Test.YtbcpcopapbgcdaaGreatDoorSZ39
import Derived.BigRegion
import Derived.Stop.RegionWithIn
/- Part: SegStr. -/
namespace Go.Proofs.YtbcpcopapbgcdaaGreatDoor.M
open Go.RowKit Go.Shelf Go.Maps
open D (Fl Dk)

attribute [local go_sem] Oper.semAt_some

/-- The segments that go, from the last one to the first. -/
def stripE (goes : Fi → Bool) (fs : List Fi) : Nat → Hd → Dk → Int × Hd × Dk
  | 0, h, d => (0, h, d)
  | i + 1, h, d => match fs[i]? with
    | none => (0, h, d)
    | some f => if goes f = false then stripE goes fs i h d else
      if (removedE h d i f).1 ≠ 0 then removedE h d i f else
        stripE goes fs i (if f.has then forgetE (removedE h d i f).2.1 f.first else (removedE h d i f).2.1) (removedE h d i f).2.2

theorem DS.only5 {w wr w' : World} {X Y : Nat → Prop} {gd : Nat} {d : Dk} (h : DS w X gd d wr) (ho : Only Y wr w') (hY : ∀ k, Y k → w.heap.size ≤ k) (hd : ∀ k, Y k → ¬ X k) : DS w X gd d w' :=
  ⟨⟨ho.os.trans h.below.os, ho.tape.trans h.below.tape, ho.output.trans h.below.output, Nat.le_trans h.below.size ho.size, fun k hk => by
    rw [ho.block k (Nat.lt_of_lt_of_le hk h.below.size) fun hx => by have := hY k hx; omega]
    exact h.below.block k hk⟩, h.own, ⟨h.dsk.1.same (fun _ h => h) fun k hk => ho.block k (h.lt k hk) fun hx => hd k hx hk, fun k hk => Nat.lt_of_lt_of_le (h.lt k hk) ho.size⟩, h.well⟩

theorem LS.other {K : Nat → Obj → Prop} {w wr w' : World} {X Xd Z : Nat → Prop} {g gd : Nat} {least : Int} {h : Hd} {d : Dk} (l : LS K w X Xd g gd least h d wr) (ho : Only Z wr w') (h1 : ∀ k, Z k → w.heap.size ≤ k ∧ ¬ X k ∧ ¬ Xd k) (h2 : ∀ k o, Z k → ¬ K k o) : LS K w X Xd g gd least h d w' :=
  ⟨l.ds.only5 ho (fun k hk => (h1 k hk).1) fun k hk => (h1 k hk).2.2, l.lg.only ho fun k hk hz => (h1 k hz).2.1 hk, l.own, l.dis, fun k o hk => by
    obtain ⟨k1, k2, k3⟩ := l.kp k o hk
    exact ⟨(ho.block k (lt_of_heap k1) fun hz => h2 k o hz hk).trans k1, k2, k3⟩⟩

theorem only_row {w w' : World} {row : Option Nat} (h : w.grownBy w' row) : Only (fun k => row = some k) w w' := ⟨h.os, h.tape, h.output, h.size, fun k hk hn => h.block k hk fun e => hn e.symm⟩

/-- What holds when k rounds are over. -/
structure StAt (K : Nat → Obj → Prop) (w : World) (X Xd : Nat → Prop) (g gd : Nat) (least : Int) (goes : Fi → Bool) (fs : List Fi) (R : Int × Hd × Dk) (mi : Int) (fa : Option Addr) (k : Nat) (W : World) : Prop where
  ex : ∃ h' d', R = stripE goes fs (fs.length - k) h' d' ∧ LS K w X Xd g gd least h' d' W ∧ (∀ j, j < fs.length - k → h'.files[j]? = fs[j]?) ∧ h'.rows.length ≤ 1000000 ∧ h'.files.length ≤ 1000000 ∧ h'.mi = mi
  fb : ∀ b, fa = some ⟨b, 0, none⟩ → ∃ n' c', W.cell? ⟨g, 3, none⟩ = some (.slice (some ⟨b, 0, none⟩) n' c')

theorem StAt.next {K : Nat → Obj → Prop} {w : World} {X Xd : Nat → Prop} {g gd : Nat} {least : Int} {goes : Fi → Bool} {fs : List Fi} {R : Int × Hd × Dk} {mi : Int} {fa : Option Addr} {k : Nat} {W W' : World} (h : StAt K w X Xd g gd least goes fs R mi fa k W) (hb : Below W.heap.size W W') : StAt K w X Xd g gd least goes fs R mi fa k W' := by
  obtain ⟨⟨h', d', e1, e2, e3⟩, e7⟩ := h
  refine ⟨⟨h', d', e1, e2.next hb, e3⟩, fun b hb2 => ?_⟩
  obtain ⟨n', c', h3⟩ := e7 b hb2
  exact ⟨n', c', (World.cell?_of_block (a := ⟨g, 3, none⟩) (hb.block g (lt_of_cell h3).1)).trans h3⟩

theorem cell_put5 {W : World} {D : Nat} {a : Addr} {v : Value} (h : W.cell? a = some v) (hK : W.heap[D]? = some (.deferred (some []))) : (W.putObj D (.deferred none)).cell? a = some v :=
  cell_kept h (grownBy_putObj' _ D (.deferred none)) fun r e => (by cases e; exact ⟨_, hK, rfl⟩)

theorem keeps_below5 {B : Nat} {W W' : World} (h : Below W.heap.size W W') : KeepsFrom B W W' := KeepsFrom.of_grownBy (grown_of_below h) fun j e => by cases e

theorem keeps_only5 {B : Nat} {W W' : World} {Z : Nat → Prop} (h : Only Z W W') (hZ : ∀ k, Z k → k < B) : KeepsFrom B W W' :=
  ⟨h.size, fun k o hk ho _ => (h.block k (lt_of_heap ho) fun hz => by have := hZ k hz; omega).trans ho⟩

set_option maxRecDepth 100000 in
set_option maxHeartbeats 4000000 in
theorem strip_ok (K : Nat → Obj → Prop) (w wa : World) (X Xd : Nat → Prop) (g gd : Nat) (least : Int) (h : Hd) (d : Dk) (l : LS K w X Xd g gd least h d wa) (goes : Fi → Bool) (gc : Nat) (caps : Array Value) (hgc : ∀ args w, (callFunc gc args).run Tryz.prog w = .ok (.enter gc args) w)
    (hgoes : ∀ f ∈ h.files, ∀ W, (∀ k o, K k o → W.heap[k]? = some o) → Calls Tryz.prog gc (#[fiAgg f] ++ caps) W fun e W' => e = .returned (.bool (goes f)) ∧ Below W.heap.size W W')
    (hrl : h.rows.length ≤ 1000000) (hfl : h.files.length ≤ 1000000) (hm : 0 ≤ h.mi ∧ h.mi < 10000000000) (hfb : ∀ f ∈ h.files, 0 ≤ f.first ∧ f.first < 10000000000) (hP : Hid (Pow10 w)) (hr : (stripE goes h.files h.files.length h d).1 = 0) :
    Calls Tryz.prog 103 #[.pointer (some ⟨g, 0, none⟩), .func (.func gc) #[] caps] wa fun e w' => e = .returned (.int .i64 0) ∧ LS K w X Xd g gd least (stripE goes h.files h.files.length h d).2.1 (stripE goes h.files h.files.length h d).2.2 w' := by
  obtain ⟨W3, hW3⟩ : ∃ W3, W3 = ((wa.alloc (.cells #[.pointer (some ⟨g, 0, none⟩)] 28)).alloc (.cells #[.func (.func gc) #[] caps] 106)).alloc (.cells #[.int .i64 0] 25) := ⟨_, rfl⟩
  have hb3 : Below wa.heap.size wa W3 := by rw [hW3]; exact (((Below.refl _ wa).alloc (Nat.le_refl _) _).alloc (by simp) _).alloc (by simp; omega) _
  have hx0 : W3.heap[wa.heap.size]? = some (.cells #[.pointer (some ⟨g, 0, none⟩)] 28) := by rw [hW3]; exact old_alloc (old_alloc (heap_new _ _ _ rfl))
  have hx1 : W3.heap[wa.heap.size + 1]? = some (.cells #[.func (.func gc) #[] caps] 106) := by rw [hW3]; exact old_alloc (heap_new _ _ _ (by simp))
  have hx2 : W3.heap[wa.heap.size + 2]? = some (.cells #[.int .i64 0] 25) := by rw [hW3]; exact heap_new _ _ _ (by simp)
  have HL3 := Lib.hid (l.next hb3)
  have HL := Lib.hid l
  have HX0 := Lib.hid hx0
  have HX1 := Lib.hid hx1
  have HX2 := Lib.hid hx2
  have HB3 := Lib.hid hb3
  have HGO := Lib.hid hgoes
  have HR := Lib.hid hr
  have HFB := Lib.hid hfb
  have HM := Lib.hid hm
  have HRL := Lib.hid hrl
  have HFL := Lib.hid hfl
  have HW3 := Lib.hid hW3
  obtain ⟨⟨vr, vf, rv, la⟩, lz⟩ := HL3.out.lg
  obtain ⟨fa, fc, rfl, -, -⟩ := row5_slice la.frow
  obtain ⟨c0, c1, c2, c3, c4, c5, c6, cz⟩ := seven_cells la.box
  have HLA := Lib.hid la
  obtain ⟨nf, hnf⟩ : ∃ nf, nf = h.files.length := ⟨_, rfl⟩
  rw [← hnf] at c3
  have HNF := Lib.hid hnf
  rw [hW3] at c3
  have c3' := (HL.out.lg.1)
  clear l la lz c0 c1 c2 c4 c5 c6 hx0 hx1 hx2 hb3 hW3 hgoes hr hfb hm hrl hfl hnf c3'
  refine (callsIn_wide (n := 3)).1 ?_
  refine callsIn_of_wp_marks Tryz.func103 rfl trivial ?_ rfl
  simp only [Tryz.ntmps103, List.size_toArray, List.length_cons, List.length_nil, Nat.reduceAdd, Nat.reduceSub, Array.replicate_succ, Array.replicate_zero, List.push_toArray, List.append_toArray, List.nil_append, List.cons_append]
  gi_wp2_with (refine ⟨trivial, ?_⟩; gi_at_call 144; rw [← HW3.out]; refine (callsIn_wide.2 (backFi_any _ _ _ _)).mono ?_; rintro e w4 ⟨rfl, rfl⟩)
  obtain ⟨W4, hW4⟩ : ∃ W4, W4 = W3.alloc (.cells #[.slice fa nf fc] 99) := ⟨_, rfl⟩
  rw [← hW4]
  have hb4 : Below W3.heap.size W3 W4 := by rw [hW4]; exact below_alloc _ _
  have hz4 : W4.heap.size = W3.heap.size + 1 := by rw [hW4]; simp
  have hx3 : W4.heap[W3.heap.size]? = some (.cells #[.slice fa nf fc] 99) := by rw [hW4]; exact heap_new _ _ _ rfl
  have HL4 := Lib.hid (HL3.out.next hb4)
  have hz3 : wa.heap.size + 3 = W3.heap.size := by rw [HW3.out]; simp
  have hXl : ∀ k, X k → k < wa.heap.size := fun k hk => HL.out.lt hk
  have hDl : ∀ k, Xd k → k < wa.heap.size := HL.out.ds.lt
  have y0 := old_below HX0.out hb4
  have y1 := old_below HX1.out hb4
  have y2 := old_below HX2.out hb4
  have HY : Hid (∀ (W : World) (h' : Hd) (d' : Dk), LS (fun k o => W4.heap[k]? = some o ∧ ¬ X k ∧ ¬ Xd k) w X Xd g gd least h' d' W → W.heap[wa.heap.size]? = some (.cells #[.pointer (some ⟨g, 0, none⟩)] 28) ∧ W.heap[wa.heap.size + 1]? = some (.cells #[.func (.func gc) #[] caps] 106) ∧ W.heap[wa.heap.size + 2]? = some (.cells #[.int .i64 0] 25) ∧ W.heap[W3.heap.size]? = some (.cells #[.slice fa nf fc] 99) ∧ W4.heap.size ≤ W.heap.size) := Lib.hid fun W h' d' hl => by
    have hn : ∀ k, wa.heap.size ≤ k → ¬ X k ∧ ¬ Xd k := fun k hk => ⟨fun hx => by have := hXl k hx; omega, fun hx => by have := hDl k hx; omega⟩
    refine ⟨(hl.kp _ _ ⟨y0, hn _ (by omega)⟩).1, (hl.kp _ _ ⟨y1, hn _ (by omega)⟩).1, (hl.kp _ _ ⟨y2, hn _ (by omega)⟩).1, (hl.kp _ _ ⟨hx3, hn _ (by omega)⟩).1, ?_⟩
    have := lt_of_heap (hl.kp _ _ ⟨hx3, hn _ (by omega)⟩).1
    omega
  obtain ⟨RR, hRR⟩ : ∃ RR, RR = stripE goes h.files h.files.length h d := ⟨_, rfl⟩
  rw [← hRR] at HR
  have HRR := Lib.hid hRR
  have HXl := Lib.hid hXl
  have HDl := Lib.hid hDl
  have HZ : Hid (wa.heap.size + 4 = W4.heap.size) := Lib.hid (by omega)
  have HKK : Hid (∀ (W : World) (h' : Hd) (d' : Dk), LS (fun k o => W4.heap[k]? = some o ∧ ¬ X k ∧ ¬ Xd k) w X Xd g gd least h' d' W → ∀ k o, K k o → W.heap[k]? = some o) := Lib.hid fun W h' d' hl k o hk => (hl.kp k o (HL4.out.kp k o hk)).1
  have hI0 : StAt (fun k o => W4.heap[k]? = some o ∧ ¬ X k ∧ ¬ Xd k) w X Xd g gd least goes h.files RR h.mi fa 0 W4 := ⟨⟨h, d, hRR, HL4.out.keep, fun _ _ => rfl, HRL.out, HFL.out, rfl⟩, fun b hb => by
    have h3 := cell_of_row _ _ 3 _ _ _ (HLA.out.same (fun _ h => h) fun k hk => hb4.block k (HL3.out.lt hk)).box
    rw [hb] at h3
    exact ⟨_, _, h3⟩⟩
  have hfaj : ∀ j, j < h.files.length → ∃ b, fa = some ⟨b, 0, none⟩ := fun j hj => by
    obtain ⟨ga, c, hv, -⟩ := row5_elem (f := fiV) (fun _ => rfl) HLA.out.frow j hj
    cases hv
    exact ⟨ga, rfl⟩
  have HB4 := Lib.hid hb4
  clear hW4 hb4 hx3 hXl hDl y0 y1 y2 hRR hz3
  refine wpIn_rangeFunc_by (F := Fence.wide) (n := 3) rfl (by omega) (gf := 177) (lb := #[.pointer (some ⟨W3.heap.size, 0, none⟩)]) rfl trivial (enters_of Tryz.func177 (by kernel_rfl) rfl)
    h.files.length (bkEnc h.files) (fun _ => rfl) (FilesAt W3.heap.size fa fc h.files)
    (fun l J Jx W hJ hY h0 => backFi_in Fence.wide 2 trivial rfl (by omega) l W3.heap.size fa fc h.files HFL.out J Jx hJ hY W h0)
    (StAt (fun k o => W4.heap[k]? = some o ∧ ¬ X k ∧ ¬ Xd k) w X Xd g gd least goes h.files RR h.mi fa) (fun _ _ _ => False)
    ?own (fun _ _ _ _ _ h => h.elim) ?reads hI0
    (fun k a' W => ∃ B6, W4.heap.size ≤ B6 ∧ W.heap[B6]? = some (.cells #[.int .i64 (bkFi h.files k).first, .int .i64 (bkFi h.files k).last, .int .i64 (bkFi h.files k).size, .int .i64 (bkFi h.files k).torn, .bool (bkFi h.files k).loose] 114) ∧
      a' = { tmps := #[.pointer (some ⟨g, 0, none⟩), .func (.func gc) #[] caps, .pointer (some ⟨wa.heap.size, 0, none⟩), .pointer (some ⟨wa.heap.size + 1, 0, none⟩), .pointer (some ⟨wa.heap.size + 1 + 1, 0, none⟩), .int .i64 ((h.files.length - 1 - k : Nat) : Int), .pointer (some ⟨B6, 0, none⟩), undef, .pointer (some ⟨g, 0, none⟩), .pointer (some ⟨g, 0, none⟩), .pointer (some ⟨g, 0, none⟩), .pointer (some ⟨g, 3, none⟩), .slice fa nf fc, .func (.func 177) #[] #[.pointer (some ⟨W3.heap.size, 0, none⟩)], .int .i64 ((h.files.length - 1 - k : Nat) : Int), fiAgg (bkFi h.files k), undef, undef, undef, undef, undef, undef, undef, undef, undef, undef, undef, undef, undef, undef, undef, undef, undef, undef], defers := [] })
    ?ownA ?assign ?body ?done (fun _ _ _ _ _ h => h.elim)
  case own =>
    rintro k W W' row ⟨⟨h', d', e1, e2, e3, e4, e5, e6⟩, e7⟩ hg hrow
    have hz := HZ.out
    refine ⟨⟨h', d', e1, e2.other (only_row hg) (fun q hq => ?_) (fun q o hq hk => ?_), e3, e4, e5, e6⟩, fun b hb => ?_⟩
    · have h1 := (hrow q hq).1
      exact ⟨by have := HL4.out.below.size; omega, fun hx => by have := HXl.out q hx; omega, fun hx => by have := HDl.out q hx; omega⟩
    · have h1 := (hrow q hq).1
      have h2 := lt_of_heap hk.1
      omega
    · obtain ⟨n', c', h3⟩ := e7 b hb
      exact ⟨n', c', cell_kept h3 hg fun r hr => (hrow r hr).2⟩
  case reads =>
    rintro k W hk ⟨⟨h', d', e1, e2, e3, e4, e5, e6⟩, e7⟩
    obtain ⟨-, -, -, y3, -⟩ := HY.out W h' d' e2
    refine ⟨by rw [← HNF.out]; exact cell_of_row _ _ 0 _ _ _ y3, fun j hj hjk => ?_⟩
    obtain ⟨b, hb⟩ := hfaj j hj
    obtain ⟨n', c', h3⟩ := e7 b hb
    obtain ⟨⟨vr', vf', rv', la'⟩, -⟩ := e2.lg
    have h4 := e3 j (by omega)
    rw [List.getElem?_eq_getElem hj] at h4
    obtain ⟨h5, h6⟩ := List.getElem?_eq_some_iff.1 h4
    obtain ⟨ga, c, hv, -, -, -, hcs, -⟩ := row5_elem (f := fiV) (fun _ => rfl) la'.frow j h5
    have h7 := cell_of_row _ _ 3 _ _ _ la'.box
    rw [h3, hv] at h7
    cases h7
    refine ⟨_, hb, fun t ht => ?_⟩
    rw [hcs t ht, h6]
  case ownA =>
    rintro a' k W W' row ⟨B6, h1, h2, h3⟩ hg hrow
    refine ⟨B6, h1, (hg.block B6 (lt_of_heap h2) fun e => ?_).trans h2, h3⟩
    obtain ⟨-, o, ho, hc⟩ := hrow B6 e.symm
    rw [h2] at ho
    cases ho
    cases hc
  case assign =>
    intro l k W K2 hI hk hK
    have hK2 := Lib.hid hK
    unfold bkEnc
    obtain ⟨f, hf⟩ : ∃ f, f = bkFi h.files k := ⟨_, rfl⟩
    rw [← hf] at hK ⊢
    obtain ⟨f0, f1, f2, f3, f4⟩ := f
    unfold fiAgg
    simp only
    clear hK
    have hpost := hK2.out _ _ (keeps_below5 (below_alloc W (.cells #[.int .i64 f0, .int .i64 f1, .int .i64 f2, .int .i64 f3, .bool f4] 114))) (hI.next (below_alloc _ _)) ⟨W.heap.size, by
      obtain ⟨⟨h', d', -, e2, -⟩, -⟩ := hI
      exact (HY.out W h' d' e2).2.2.2.2, by rw [← hf]; exact heap_new _ _ _ rfl, rfl⟩
    rw [← hf] at hpost
    unfold fiAgg at hpost
    simp only at hpost
    have HP := Lib.hid hpost
    clear hpost hK2 hf hI
    gi_wp2
    exact HP.out
  case body =>
    rintro l k a' W ⟨⟨h', d', e1, e2, e3, e4, e5, e6⟩, e7⟩ ⟨B6, hB6, hx6, rfl⟩ hk
    obtain ⟨m, hm⟩ : ∃ m, h.files.length = m + 1 + k := ⟨h.files.length - 1 - k, by omega⟩
    have hm1 : h.files.length - k = m + 1 := by omega
    have hm2 : h.files.length - 1 - k = m := by omega
    have hm3 : h.files.length - (k + 1) = m := by omega
    have hmf : m < h.files.length := by omega
    obtain ⟨f, hf⟩ : ∃ f, f = bkFi h.files k := ⟨_, rfl⟩
    have hfm : h.files[m]? = some f := by rw [hf]; unfold bkFi; rw [hm2, List.getElem?_eq_getElem hmf]; rfl
    have hfi : f ∈ h.files := List.mem_of_getElem? hfm
    rw [← hf] at hx6 ⊢
    rw [hm1] at e1 e3
    rw [hm2]
    unfold stripE at e1
    rw [hfm] at e1
    simp only at e1
    have hfm' : h'.files[m]? = some f := (e3 m (by omega)).trans hfm
    obtain ⟨y0, y1, y2, y3, hz⟩ := HY.out W h' d' e2
    have HGC := Lib.hid (HGO.out f hfi W (HKK.out W h' d' e2))
    have c0 := cell_of_row _ _ 0 _ _ _ y0
    have c1 := cell_of_row _ _ 0 _ _ _ y1
    have HX6 := Lib.hid hx6
    have HE2 := Lib.hid e2
    have HE3 := Lib.hid e3
    have HE7 := Lib.hid e7
    have HM3 := Lib.hid hm3
    have HFM := Lib.hid hfm'
    have HE4 := Lib.hid e4
    have HE5 := Lib.hid e5
    have HE6 := Lib.hid e6
    have HBD := Lib.hid (HFB.out f hfi)
    obtain ⟨z0, z1, z2, z3, z4, -, zz⟩ := five_cells hx6
    have hbz : B6 < W.heap.size := lt_of_heap hx6
    have HHS := fun W => Lib.hid (SgHas_any f W)
    have hlb : wa.heap.size < W.heap.size := lt_of_heap y0
    have hlb1 : wa.heap.size + 1 < W.heap.size := lt_of_heap y1
    have HB6 := Lib.hid hB6
    cases hgf : goes f with
    | false =>
      rw [hgf] at HGC e1
      rw [if_pos rfl] at e1
      have HE1 := Lib.hid e1
      obtain ⟨f0, f1, f2, f3, f4⟩ := f
      unfold fiAgg at HGC ⊢
      simp only at HGC z0 z1 z2 z3 z4 ⊢
      clear hgf e1 e2 e3 e4 e5 e6 e7 hx6 hf hfm hfm' hfi hm hm1 hm2 hm3 hmf y0 y1 y2 y3
      gi_wp2_with (refine ⟨trivial, ?_⟩; refine (CallsIn.inRound l (callsIn_wide.2 HGC.out)).mono ?_; rintro e w1 ⟨rfl, hb1⟩; have HB1 := Lib.hid hb1; clear hb1)
      refine ⟨keeps_below5 HB1.out, ⟨h', d', ?_, HE2.out.next HB1.out, fun j hj => HE3.out j (by have := HM3.out; omega), HE4.out, HE5.out, HE6.out⟩, fun b hb => ?_⟩
      · rw [HM3.out]; exact HE1.out
      · obtain ⟨n', c', h3⟩ := HE7.out b hb
        exact ⟨n', c', (World.cell?_of_block (a := ⟨g, 3, none⟩) (HB1.out.block g (lt_of_cell h3).1)).trans h3⟩
    | true =>
      rw [hgf] at HGC e1
      rw [if_neg (by decide)] at e1
      have hr0 : (removedE h' d' m f).1 = 0 := by
        by_cases hz : (removedE h' d' m f).1 = 0
        · exact hz
        · rw [if_pos hz] at e1
          exact absurd (by rw [← e1]; exact HR.out) hz
      rw [if_neg (fun h => h hr0)] at e1
      obtain ⟨h5, -⟩ := List.getElem?_eq_some_iff.1 hfm'
      have HRM : Hid (∀ w1, Below W.heap.size W w1 → Calls Tryz.prog 64 #[.pointer (some ⟨g, 0, none⟩), .int .i64 (m : Int)] w1 fun e w' => e = .returned (.int .i64 0) ∧ LS (fun k o => W4.heap[k]? = some o ∧ ¬ X k ∧ ¬ Xd k) w X Xd g gd least (removedE h' d' m f).2.1 (removedE h' d' m f).2.2 w' ∧ Only (fun k => X k ∨ Xd k) w1 w' ∧ SameFB g w1 w') := Lib.hid fun w1 hb1 => by
        have := remove_any _ w w1 X Xd g gd least h' d' (e2.next hb1) m (h'.files.length - (m + 1)) f (by omega) hfm' e5 (HFB.out f hfi) hP
        rw [hr0] at this
        exact this
      have hfl : (removedE h' d' m f).2.1.files = h'.files.eraseIdx m ∧ (removedE h' d' m f).2.1.rows = h'.rows ∧ (removedE h' d' m f).2.1.mi = h'.mi := by
        unfold removedE at hr0 ⊢
        simp only at hr0 ⊢
        rw [if_pos hr0]
        exact ⟨rfl, rfl, rfl⟩
      obtain ⟨h2, hh2⟩ : ∃ h2, h2 = (removedE h' d' m f).2.1 := ⟨_, rfl⟩
      obtain ⟨d2, hd2⟩ : ∃ d2, d2 = (removedE h' d' m f).2.2 := ⟨_, rfl⟩
      rw [← hh2, ← hd2] at HRM e1
      rw [← hh2] at hfl
      have hle : h2.files.length ≤ 1000000 := by rw [hfl.1]; have := List.length_eraseIdx_le h'.files m; omega
      have hfj : ∀ j, j < m → h2.files[j]? = h.files[j]? := fun j hj => by rw [hfl.1, List.getElem?_eraseIdx_of_lt hj]; exact e3 j (by omega)
      have HE1 := Lib.hid e1
      have HFJ := Lib.hid hfj
      have HLE := Lib.hid hle
      have HR2 : Hid (h2.rows.length ≤ 1000000 ∧ h2.mi = h.mi) := Lib.hid ⟨by rw [hfl.2.1]; exact e4, hfl.2.2.trans e6⟩
      have hml : (m : Int) ≤ 1000000 := by omega
      clear e1 e2 e3 e4 e5 e6 e7 hx6 hf hfm hfm' hm hm1 hm2 hm3 hmf y0 y1 y2 y3 hr0 h5 hfl hh2 hd2 hle hfj hgf
      have HBD2 := Lib.hid (HFB.out f hfi)
      clear hfi
      obtain ⟨ff, hff⟩ : ∃ ff, ff = f.first := ⟨_, rfl⟩
      have HFF := Lib.hid hff
      clear hff
      cases hhas : f.has with
      | false =>
        rw [hhas] at HHS HE1
        clear hhas
        obtain ⟨f0, f1, f2, f3, f4⟩ := f
        unfold fiAgg at HGC HHS ⊢
        simp only at HGC HHS HX6 z0 z1 z2 z3 z4 ⊢
        gi_wp2_with (first
          | (refine ⟨trivial, ?_⟩; refine (CallsIn.inRound l (callsIn_wide.2 HGC.out)).mono ?_; rintro e w1 ⟨rfl, hb1⟩; have HB1 := Lib.hid hb1; have c0 := (World.cell?_of_block (a := ⟨wa.heap.size, 0, none⟩) (hb1.block _ hlb)).trans c0; clear hb1)
          | (refine ⟨trivial, ?_⟩; gi_at_call 64; refine (CallsIn.inRound l (callsIn_wide.2 (HRM.out w1 HB1.out))).mono ?_; rintro e w2 ⟨rfl, hl2, ho2, hs2⟩; have HL2 := Lib.hid hl2; have HO2 := Lib.hid ho2; have HS2 := Lib.hid hs2; obtain ⟨z0, z1, z2, z3, z4, -, zz⟩ := five_cells ((ho2.block B6 (Nat.lt_of_lt_of_le hbz HB1.out.size) (fun hx => by have h1 := HB6.out; have h2 := HZ.out; rcases hx with hx | hx; exact absurd (HXl.out _ hx) (by omega); exact absurd (HDl.out _ hx) (by omega))).trans (old_below HX6.out HB1.out)); clear hl2 ho2 hs2)
          | (refine ⟨trivial, ?_⟩; gi_at_call 63; refine (CallsIn.inRound l (callsIn_wide.2 (HHS w2).out)).mono ?_; rintro e w3 ⟨rfl, hb3⟩; have HB3' := Lib.hid hb3; clear hb3))
        refine ⟨(keeps_below5 HB1.out).trans ((keeps_only5 HO2.out fun q hq => by have := HZ.out; rcases hq with hq | hq; have := HXl.out q hq; omega; have := HDl.out q hq; omega).trans (keeps_below5 HB3'.out)), ⟨h2, d2, ?_, HL2.out.next HB3'.out, fun j hj => HFJ.out j (by have := HM3.out; omega), HR2.out.1, HLE.out, HR2.out.2⟩, fun b hb => ?_⟩
        · rw [HM3.out]; exact HE1.out.trans (by rw [if_neg (by decide)])
        · obtain ⟨n', c', h3⟩ := HE7.out b hb
          obtain ⟨n2, c2, h4⟩ := HS2.out b _ _ ((World.cell?_of_block (a := ⟨g, 3, none⟩) (HB1.out.block g (lt_of_cell h3).1)).trans h3)
          exact ⟨n2, c2, (World.cell?_of_block (a := ⟨g, 3, none⟩) (HB3'.out.block g (lt_of_cell h4).1)).trans h4⟩
      | true =>
        rw [hhas] at HHS HE1
        clear hhas
        have HFG : Hid (∀ w3, LS (fun k o => W4.heap[k]? = some o ∧ ¬ X k ∧ ¬ Xd k) w X Xd g gd least h2 d2 w3 → Calls Tryz.prog 106 #[.pointer (some ⟨g, 0, none⟩), .int .i64 f.first] w3 fun e w' => e = .returned (.tuple #[]) ∧ LS (fun k o => W4.heap[k]? = some o ∧ ¬ X k ∧ ¬ Xd k) w X Xd g gd least (forgetE h2 f.first) d2 w' ∧ Only X w3 w' ∧ w'.cell? ⟨g, 3, none⟩ = w3.cell? ⟨g, 3, none⟩) := Lib.hid fun w3 hl3 =>
          forget_any _ w w3 X Xd g gd least h2 d2 hl3 HR2.out.1 (by rw [HR2.out.2]; exact HM.out) f.first (by have := HBD2.out; omega)
        obtain ⟨f0, f1, f2, f3, f4⟩ := f
        unfold fiAgg at HGC HHS ⊢
        simp only at HGC HHS HFG HX6 z0 z1 z2 z3 z4 ⊢
        gi_wp2_with (first
          | (refine ⟨trivial, ?_⟩; refine (CallsIn.inRound l (callsIn_wide.2 HGC.out)).mono ?_; rintro e w1 ⟨rfl, hb1⟩; have HB1 := Lib.hid hb1; have c0 := (World.cell?_of_block (a := ⟨wa.heap.size, 0, none⟩) (hb1.block _ hlb)).trans c0; clear hb1)
          | (refine ⟨trivial, ?_⟩; gi_at_call 64; refine (CallsIn.inRound l (callsIn_wide.2 (HRM.out w1 HB1.out))).mono ?_; rintro e w2 ⟨rfl, hl2, ho2, hs2⟩; have HL2 := Lib.hid hl2; have HO2 := Lib.hid ho2; have HS2 := Lib.hid hs2; obtain ⟨z0, z1, z2, z3, z4, -, zz⟩ := five_cells ((ho2.block B6 (Nat.lt_of_lt_of_le hbz HB1.out.size) (fun hx => by have h1 := HB6.out; have h2 := HZ.out; rcases hx with hx | hx; exact absurd (HXl.out _ hx) (by omega); exact absurd (HDl.out _ hx) (by omega))).trans (old_below HX6.out HB1.out)); clear hl2 ho2 hs2)
          | (refine ⟨trivial, ?_⟩; gi_at_call 63; refine (CallsIn.inRound l (callsIn_wide.2 (HHS w2).out)).mono ?_; rintro e w3 ⟨rfl, hb3⟩; have HB3' := Lib.hid hb3; have HL3' := Lib.hid (HL2.out.next hb3); obtain ⟨c0, c0z⟩ : w3.cell? ⟨wa.heap.size, 0, none⟩ = some (.pointer (some ⟨g, 0, none⟩)) ∧ wa.heap.size < w3.heap.size := ⟨cell_of_row _ _ 0 _ _ _ (HY.out w3 h2 d2 HL3'.out).1, lt_of_heap (HY.out w3 h2 d2 HL3'.out).1⟩; have z0 := (World.cell?_of_block (a := ⟨B6, 0, none⟩) (hb3.block B6 zz)).trans z0; have zz := Nat.lt_of_lt_of_le zz hb3.size; have HF3 := Lib.hid (HFG.out w3.drew (HL3'.out.next (Below.refl _ w3).drew)); clear hb3 z1 z2 z3 z4))
        gi_region_with (refine ⟨trivial, ?_⟩; gi_at_call 106; refine (CallsIn.inRound l (callsIn_wide.2 HF3.out)).mono ?_; rintro e w4 ⟨rfl, hl4, ho4, hc4⟩; have HL4' := Lib.hid hl4; have HO4 := Lib.hid ho4; have HC4 := Lib.hid hc4; clear hl4 ho4 hc4)
        all_goals gi_wp2
        all_goals
          refine ⟨(keeps_below5 HB1.out).trans ((keeps_only5 HO2.out fun q hq => by have := HZ.out; rcases hq with hq | hq; have := HXl.out q hq; omega; have := HDl.out q hq; omega).trans ((keeps_below5 HB3'.out.drew).trans (keeps_only5 HO4.out fun q hq => by have := HZ.out; have := HXl.out q hq; omega))), ⟨forgetE h2 f0, d2, ?_, HL4'.out, fun j hj => HFJ.out j (by have := HM3.out; omega), Nat.le_trans (by unfold forgetE; simp only [List.length_take]; exact Nat.min_le_right _ _) HR2.out.1, HLE.out, HR2.out.2⟩, fun b hb => ?_⟩
          · rw [HM3.out]; exact HE1.out.trans (by rw [if_pos trivial])
          · obtain ⟨n', c', h3⟩ := HE7.out b hb
            obtain ⟨n2, c2, h4⟩ := HS2.out b _ _ ((World.cell?_of_block (a := ⟨g, 3, none⟩) (HB1.out.block g (lt_of_cell h3).1)).trans h3)
            exact ⟨n2, c2, HC4.out.trans ((World.cell?_of_block (a := ⟨g, 3, none⟩) (HB3'.out.block g (lt_of_cell h4).1)).trans h4)⟩
  case done =>
    rintro D W hD ⟨⟨h', d', e1, e2, -⟩, -⟩ hKD
    obtain ⟨-, -, y2, -, hz⟩ := HY.out W h' d' e2
    rw [Nat.sub_self] at e1
    have HE1 : Hid (RR = (0, h', d')) := Lib.hid e1
    have HE2 := Lib.hid e2
    have HK := Lib.hid hKD
    have HY2 := Lib.hid y2
    have b2 := cell_of_row _ _ 0 _ _ _ y2
    have fz := frozen_of_row _ _ 0 _ _ y2
    have hlt := lt_of_heap y2
    have hlt' : wa.heap.size + 1 + 1 < W.heap.size := hlt
    have b2' : W.cell? ⟨wa.heap.size + 1 + 1, 0, none⟩ = some (.int .i64 0) := b2
    have fz' : W.frozen? ⟨wa.heap.size + 1 + 1, 0, none⟩ = false := fz
    clear e1 e2 hKD y2 hz b2 fz hlt
    gi_wp2
    obtain ⟨Wf, hWf⟩ : ∃ Wf, Wf = W.setCell ⟨wa.heap.size + 1 + 1, 0, none⟩ (.int .i64 0) := ⟨_, rfl⟩
    rw [← hWf]
    have hoW : Only (fun q => q = wa.heap.size + 2) W Wf := by rw [hWf]; exact Only.set (Only.refl (fun q => q = wa.heap.size + 2) W) (.inl rfl) _
    have hK' : Wf.heap[D]? = some (.deferred (some [])) := (hoW.block D (lt_of_heap HK.out) (by have := HZ.out; omega)).trans HK.out
    have k0 := cell_put5 (a := ⟨wa.heap.size + 1 + 1, 0, none⟩) (v := .int .i64 0) (by rw [hWf]; simp [go_sem, b2', hlt']) hK'
    have hfin : Only (fun q => q = wa.heap.size + 2 ∨ q = D) W (Wf.putObj D (.deferred none)) := (hoW.mono fun q hq => .inl hq).then ((only_row (grownBy_putObj' Wf D (.deferred none))).mono fun q hq => .inr (Option.some.inj hq).symm)
    have HLF : Hid (LS K w X Xd g gd least h' d' (Wf.putObj D (.deferred none))) := Lib.hid ((HL4.out.stay HE2.out).other hfin (fun q hq => by
      have h1 := HZ.out
      have h2 := HL.out.below.size
      have h3 : wa.heap.size ≤ q := by rcases hq with rfl | rfl <;> omega
      exact ⟨by omega, fun hx => by have := HXl.out q hx; omega, fun hx => by have := HDl.out q hx; omega⟩) fun q o hq hk => by
      have h1 := lt_of_heap (HL.out.kp q o hk).1
      have h2 := HZ.out
      rcases hq with rfl | rfl <;> omega)
    refine ⟨by simp, .inl ⟨_, _, rfl, run_takeDeferred hK', ?_⟩⟩
    have hRR := HE1.out
    rw [HRR.out] at hRR
    refine ⟨.int .i64 0, by simp [results, Tryz.f103, go_sem, k0], rfl, ?_⟩
    rw [hRR]
    exact HLF.out
end Go.Proofs.YtbcpcopapbgcdaaGreatDoor.M

/- Part: SegMnd. -/
namespace Go.Proofs.YtbcpcopapbgcdaaGreatDoor.M
open Go.RowKit Go.Maps
open D (Fl Dk)

theorem stripE_none {goes : Fi → Bool} {fs : List Fi} (h : ∀ f ∈ fs, goes f = false) : ∀ (i : Nat) (hd : Hd) (d : Dk), stripE goes fs i hd d = (0, hd, d)
  | 0, _, _ => rfl
  | i + 1, hd, d => by
    unfold stripE
    cases hf : fs[i]? with
    | none => rfl
    | some f =>
      simp only
      rw [if_pos (h f (List.mem_of_getElem? hf))]
      exact stripE_none h i hd d

set_option maxRecDepth 40000 in
set_option maxHeartbeats 6400000 in
theorem mend_any (K : Nat → Obj → Prop) (w wa : World) (X Xd : Nat → Prop) (g gd : Nat) (least : Int) (h : Hd) (d : Dk) (l : LS K w X Xd g gd least h d wa) (fn : Fn) (caps : Array Value)
    (hst : ∀ f ∈ h.files, ∀ gs W, W.heap[gs]? = some (.cells #[.func fn #[] caps] 106) → (∀ k o, K k o → W.heap[k]? = some o) → Calls Tryz.prog 109 #[fiAgg f, .pointer (some ⟨gs, 0, none⟩)] W fun e w' => e = .returned (.bool false) ∧ Below W.heap.size W w')
    (htorn : ∀ f ∈ h.files, f.torn = 0) (ho : HdOk h) (hP : Hid (Pow10 w)) :
    Calls Tryz.prog 52 #[.pointer (some ⟨g, 0, none⟩), .func fn #[] caps] wa fun e w' => e = .returned (.int .i64 (syncE h d).1) ∧ ∃ Xd', LS K w X Xd' g gd least (syncE h d).2.1 (syncE h d).2.2 w' := by
  obtain ⟨W1, hW1⟩ : ∃ W1, W1 = wa.alloc (.cells #[.func fn #[] caps] 106) := ⟨_, rfl⟩
  have hb1 : Below wa.heap.size wa W1 := by rw [hW1]; exact below_alloc _ _
  have hx1 : W1.heap[wa.heap.size]? = some (.cells #[.func fn #[] caps] 106) := by rw [hW1]; exact heap_new _ _ _ rfl
  have hl1 := l.next hb1
  have hnX : ¬ X wa.heap.size ∧ ¬ Xd wa.heap.size := ⟨fun hx => Nat.lt_irrefl _ (l.lt hx), fun hx => Nat.lt_irrefl _ (l.ds.lt _ hx)⟩
  have hsn := stripE_none (goes := fun _ => false) (fs := h.files) (fun _ _ => rfl) h.files.length h d
  have hstrip := strip_ok _ w W1 X Xd g gd least h d hl1.keep (fun _ => false) 109 #[.pointer (some ⟨wa.heap.size, 0, none⟩)] (enters_of Tryz.func109 (by kernel_rfl) rfl)
    (fun f hf W hk => hst f hf wa.heap.size W (hk _ _ ⟨hx1, hnX⟩) fun k o hko => by
      obtain ⟨k1, k2, k3⟩ := hl1.kp k o hko
      exact hk k o ⟨k1, k2, k3⟩) (Nat.le_trans ho.rl (Nat.le_refl _)) ho.fl ho.m.1 (fun f hf => (ho.fb f hf).1) hP (by rw [hsn])
  rw [hsn] at hstrip
  simp only at hstrip
  have HST := Lib.hid hstrip
  have HL1 := Lib.hid hl1
  have HTO := Lib.hid htorn
  have HO := Lib.hid ho
  have HW1 := Lib.hid hW1
  clear l hb1 hx1 hl1 hnX hsn hstrip hst htorn ho hW1
  have hmf : ∀ (fn : Fn) (first cap : Array Value) (w : World), (Instr.makeFunc fn first cap).run Tryz.prog w = .ok (.func fn first cap) w := fun _ _ _ _ => rfl
  go_enter Tryz.func52, Tryz.ntmps52
  go_wp2_with fail
  rw [← HW1.out]
  refine HST.out.mono ?_
  rintro e w2 ⟨rfl, hl2⟩
  have HL2 := Lib.hid (HL1.out.stay hl2)
  clear hl2
  obtain ⟨⟨vr, vf, rv, la⟩, lz⟩ := HL2.out.lg
  obtain ⟨fa, fc, rfl, -, -⟩ := row5_slice la.frow
  obtain ⟨c0, c1, c2, c3, c4, c5, c6, cz⟩ := seven_cells la.box
  obtain ⟨nf, hnf⟩ : ∃ nf, nf = h.files.length := ⟨_, rfl⟩
  have HLA := Lib.hid la
  have hnl : nf ≤ 1000000 := by rw [hnf]; exact HO.out.fl
  rw [← hnf] at c3
  have HNF := Lib.hid hnf
  clear la lz c0 c1 c2 c4 c5 c6 hnf
  go_wp2_with fail
  go_loopw [6, 7, 21] (fun _ _ i wr => ∃ k : Nat, i = .int .i64 (k : Int) ∧ k ≤ nf ∧ Below w2.heap.size w2 wr) (fun _ _ i _ => nf - (intOf i).toNat)
  case atStart => exact ⟨0, rfl, Nat.zero_le _, Below.refl _ _⟩
  case round =>
    obtain ⟨k, rfl, hk, hbr⟩ := hrel
    have HBR := Lib.hid hbr
    by_cases hlt : k < nf
    · have hkk : (k : Int) < (nf : Int) := by omega
      have hkf : k < h.files.length := by rw [← HNF.out]; exact hlt
      obtain ⟨ga, c, hv, hgz, -, -, hcs, -⟩ := row5_elem (f := fiV) (fun _ => rfl) (ownsRow_same HLA.out.frow fun q hq => hbr.block q (HL2.out.lt (HLA.out.ff q hq).1)) k hkf
      cases hv
      have e0 := hcs 0 (by omega)
      have e1 := hcs 1 (by omega)
      have e2 := hcs 2 (by omega)
      have e3 := hcs 3 (by omega)
      have e4 := hcs 4 (by omega)
      have hto := HTO.out _ (List.getElem_mem hkf)
      obtain ⟨f, hf⟩ : ∃ f, f = h.files[k] := ⟨_, rfl⟩
      rw [← hf] at e0 e1 e2 e3 e4 hto
      obtain ⟨f0, f1, f2, f3, f4⟩ := f
      simp only [fiV, List.getElem?_cons_zero, List.getElem?_cons_succ, Nat.add_zero] at e0 e1 e2 e3 e4
      simp only at hto
      subst hto
      have HN : Hid (Below w2.heap.size w2 (wr.alloc (.cells #[.int .i64 f0, .int .i64 f1, .int .i64 f2, .int .i64 0, .bool f4] 114))) := Lib.hid (hbr.alloc hbr.size _)
      clear hcs hf hbr
      go_wp2_with fail
      go_roundw
      case rel => exact ⟨k + 1, by go_num, by omega, HN.out⟩
      case measure => simp [intOf]; omega
    · have hkk : ¬ (k : Int) < (nf : Int) := by omega
      have HSY := Lib.hid (Sync_any _ w wr X Xd g gd least h d (HL2.out.next hbr) HO.out hP)
      clear hbr
      go_wp2_with fail
      refine HSY.out.mono ?_
      rintro e w3 ⟨rfl, Xd', hl3⟩
      have HL3 := Lib.hid hl3
      clear hl3
      go_wp2_with fail
      go_ret
      exact ⟨rfl, Xd', HL3.out⟩
end Go.Proofs.YtbcpcopapbgcdaaGreatDoor.M

/- Part: SegOpe. -/
namespace Go.Proofs.YtbcpcopapbgcdaaGreatDoor.M
open Go.RowKit Go.Maps
open D (Fl Dk)

set_option maxRecDepth 20000 in
set_option maxHeartbeats 3200000 in
theorem scan_empty (d : Dk) (X : Nat → Prop) (gd : Nat) (w : World) (hd : PDskIn w X gd d) (hf : d.fs = []) :
    Calls Tryz.prog 51 #[.pointer (some ⟨gd, 0, none⟩)] w fun e w' => e = .returned (.agg #[.int .i64 0, .int .i64 0, .slice none 0 0, .slice none 0 0, .int .i64 0]) ∧ Below w.heap.size w w' := by
  obtain ⟨W, hW⟩ : ∃ W, W = (w.alloc (.cells #[.int .i64 0, .int .i64 0, .slice none 0 0, .slice none 0 0, .int .i64 0] 101)).alloc (.cells #[.int .i64 0, .int .i64 0, .slice none 0 0, .slice none 0 0, .int .i64 0] 101) := ⟨_, rfl⟩
  have hb : Below w.heap.size w W := by rw [hW]; exact ((Below.refl _ w).alloc (Nat.le_refl _) _).alloc (by simp) _
  have hx1 : W.heap[w.heap.size + 1]? = some (.cells #[.int .i64 0, .int .i64 0, .slice none 0 0, .slice none 0 0, .int .i64 0] 101) := by rw [hW]; exact heap_new _ _ _ (by simp)
  have hx0 : W.heap[w.heap.size]? = some (.cells #[.int .i64 0, .int .i64 0, .slice none 0 0, .slice none 0 0, .int .i64 0] 101) := by rw [hW]; exact old_alloc (heap_new _ _ _ rfl)
  have HNC := Lib.hid (Names_any d X gd W (hd.next hb) (by rw [hf]; exact List.Pairwise.nil) (by rw [hf]; decide))
  rw [hf] at HNC
  have HW := Lib.hid hW
  have HB := Lib.hid hb
  have HX1 := Lib.hid hx1
  have HX0 := Lib.hid hx0
  clear hW hb hx1 hx0 hd
  go_enter Tryz.func51, Tryz.ntmps51
  go_wp2_with fail
  rw [← HW.out]
  refine HNC.out.mono ?_
  rintro e w1 ⟨v, rfl, hb1, hrow⟩
  obtain ⟨na, nc, rfl⟩ := owned_slice hrow
  have HB1 := Lib.hid hb1
  obtain ⟨c0, c1, c2, c3, c4, -, cz⟩ := five_cells (old_below HX1.out hb1)
  have hy0 := old_below HX0.out hb1
  obtain ⟨d0, d1, d2, d3, d4, -, dz⟩ := five_cells hy0
  have e0 := frozen_of_row _ _ 0 _ _ hy0
  have e1 := frozen_of_row _ _ 1 _ _ hy0
  have e2 := frozen_of_row _ _ 2 _ _ hy0
  have e3 := frozen_of_row _ _ 3 _ _ hy0
  have e4 := frozen_of_row _ _ 4 _ _ hy0
  clear hb1 hrow hy0
  simp only [List.length_nil]
  go_wp2_with fail
  go_loopw [16] (fun i wr => i = .int .i64 0 ∧ wr = w1) (fun _ _ => 0)
  case atStart => exact ⟨rfl, rfl⟩
  case round =>
    obtain ⟨rfl, rfl⟩ := hrel
    go_wp2_with fail
    refine bodyPost_ret (v := .agg #[.int .i64 0, .int .i64 0, .slice none 0 0, .slice none 0 0, .int .i64 0]) (by simp [results, Tryz.results51, go_sem, d0, d1, d2, d3, d4, dz]) rfl ?_
    exact ⟨rfl, (((((HB.out.trans (HB1.out.mono HB.out.size)).setCell (by simp) _).setCell (by simp) _).setCell (by simp) _).setCell (by simp) _).setCell (by simp) _⟩

theorem LS.fresh {K : Nat → Obj → Prop} {w wr W : World} {Xd : Nat → Prop} {gd : Nat} {d : Dk} (hd : DS w Xd gd d wr) (hk : ∀ k o, K k o → wr.heap[k]? = some o ∧ ¬ Xd k) (least : Int) (g : Nat) (hg : g = wr.heap.size)
    (hW : W = wr.alloc (.cells #[.int .i64 0, .int .i64 0, .slice none 0 0, .slice none 0 0, .int .i64 0, .pointer (some ⟨gd, 0, none⟩), .int .i64 least] 104)) : LS K w (fun k => k = g) Xd g gd least ⟨0, 0, [], [], 0⟩ d W := by
  have hb : Below wr.heap.size wr W := by rw [hW]; exact below_alloc _ _
  have hbox : W.heap[g]? = some (.cells #[.int .i64 0, .int .i64 0, .slice none 0 0, .slice none 0 0, .int .i64 0, .pointer (some ⟨gd, 0, none⟩), .int .i64 least] 104) := by rw [hW, hg]; exact heap_new _ _ _ rfl
  refine ⟨hd.next hb, ⟨⟨.slice none 0 0, .slice none 0 0, [], hbox, rfl, World.ownsRow_nil _ _ _ _, World.ownsRow_nil _ _ _ _, (fun p hp => by cases hp), rfl, (fun k hk => by cases hk), fun k hk => by cases hk⟩, fun k hk => by rw [hk]; exact lt_of_heap hbox⟩, fun k hk => by rw [hk, hg]; exact hd.below.size, fun k hk hx => by have := hd.lt k hx; omega, fun k o hko => ?_⟩
  obtain ⟨k1, k2⟩ := hk k o hko
  exact ⟨old_below k1 hb, fun e => by have := lt_of_heap k1; omega, k2⟩

set_option maxRecDepth 20000 in
set_option maxHeartbeats 3200000 in
theorem Open_empty (K : Nat → Obj → Prop) (w wr : World) (Xd : Nat → Prop) (gd : Nat) (d : Dk) (hd : DS w Xd gd d wr) (hf : d.fs = []) (hk : ∀ k o, K k o → wr.heap[k]? = some o ∧ ¬ Xd k) (mi mt : Int) (hm : (0 ≤ mi ∧ mi < 10000000000) ∧ (0 ≤ mt ∧ mt < 10000000000)) (size : Int) (hs : 1 ≤ size) (hP : Hid (Pow10 w)) :
    Calls Tryz.prog 11 #[.pointer (some ⟨gd, 0, none⟩), .agg #[.int .i64 mi, .int .i64 mt], .int .i64 size] wr fun e w' => ∃ g X Xd', e = .returned (.tuple #[.pointer (some ⟨g, 0, none⟩), .int .i64 0]) ∧ LS K w X Xd' g gd size ⟨mi, mt, [], [], mi⟩ d w' := by
  obtain ⟨W, hW⟩ : ∃ W, W = wr.alloc (.cells #[.int .i64 mi, .int .i64 mt] 32) := ⟨_, rfl⟩
  obtain ⟨bm, hbm⟩ : ∃ b, b = wr.heap.size := ⟨_, rfl⟩
  have hb : Below wr.heap.size wr W := by rw [hW]; exact below_alloc _ _
  have hx : W.heap[bm]? = some (.cells #[.int .i64 mi, .int .i64 mt] 32) := by rw [hW, hbm]; exact heap_new _ _ _ rfl
  have hmk : okMark (mi, mt) = true := decide_eq_true ⟨hm.1.1, hm.1.2, hm.2.1, hm.2.2⟩
  have HMK := Lib.hid (IsMark_any mi mt)
  rw [hmk] at HMK
  have HD := Lib.hid hd
  have HK := Lib.hid hk
  have HW := Lib.hid hW
  have HB := Lib.hid hb
  have HX := Lib.hid hx
  have HM := Lib.hid hm
  have HBM := Lib.hid hbm
  have HF := Lib.hid hf
  obtain ⟨c0, c1, -, -, cz⟩ := block2 hx
  have hsl : (size < 1) = False := by simp; omega
  have hs2 : decide (size < 1) = false := decide_eq_false (by omega)
  clear hd hk hb hx hm hmk hf hW hbm
  go_enter Tryz.func11, Tryz.ntmps11
  go_wp2_with fail
  rw [← HW.out]
  refine (HMK.out W).mono ?_
  rintro e w1 ⟨rfl, hb1⟩
  have HB1 : Hid (Below wr.heap.size wr w1) := Lib.hid (HB.out.trans (hb1.mono HB.out.size))
  have HX1 := Lib.hid (old_below HX.out hb1)
  clear hb1 c0 c1 cz
  go_wp2_with fail
  refine (scan_empty d Xd gd w1 (HD.out.next HB1.out).dsk HF.out).mono ?_
  rintro e w2 ⟨rfl, hb2⟩
  have HB2 : Hid (Below wr.heap.size wr w2) := Lib.hid (HB1.out.trans (hb2.mono HB1.out.size))
  have HX2 := Lib.hid (old_below HX1.out hb2)
  clear hb2
  go_wp2_with fail
  obtain ⟨W3, hW3⟩ : ∃ W3, W3 = w2.alloc (.cells #[.int .i64 0, .int .i64 0, .slice none 0 0, .slice none 0 0, .int .i64 0, .pointer (some ⟨gd, 0, none⟩), .int .i64 size] 104) := ⟨_, rfl⟩
  obtain ⟨g, hg⟩ : ∃ g, g = w2.heap.size := ⟨_, rfl⟩
  have hb3 : Below w2.heap.size w2 W3 := by rw [hW3]; exact below_alloc _ _
  have HX3 := Lib.hid (old_below HX2.out hb3)
  have hnb : ¬ Xd bm := fun hx => by have := HD.out.lt _ hx; have := HBM.out; omega
  have hl0 : LS (fun k o => K k o ∨ (k = bm ∧ o = .cells #[.int .i64 mi, .int .i64 mt] 32)) w (fun k => k = g) Xd g gd size ⟨0, 0, [], [], 0⟩ d W3 := LS.fresh (HD.out.next HB2.out) (fun k o hko => by
    rcases hko with hko | ⟨rfl, rfl⟩
    · obtain ⟨k1, k2⟩ := HK.out k o hko
      exact ⟨old_below k1 HB2.out, k2⟩
    · exact ⟨HX2.out, hnb⟩) size g hg hW3
  have HL0 := Lib.hid (hl0.next (Below.refl _ W3).drew)
  rw [← hW3, ← hg]
  have r0 : ∀ w' : World, w'.heap[bm]? = some (.cells #[.int .i64 mi, .int .i64 mt] 32) → w'.cell? ⟨bm, 0, none⟩ = some (.int .i64 mi) := fun w' h => cell_of_row _ _ 0 _ _ _ h
  have r1 : ∀ w' : World, w'.heap[bm]? = some (.cells #[.int .i64 mi, .int .i64 mt] 32) → w'.cell? ⟨bm, 1, none⟩ = some (.int .i64 mt) := fun w' h => cell_of_row _ _ 1 _ _ _ h
  rw [← HBM.out]
  have hS : W3.drew.heap[bm]? = some (.cells #[.int .i64 mi, .int .i64 mt] 32) := HX3.out
  clear hW3 hg hb3 hnb hl0
  refine wp_region_held (S := fun w' : World => w'.heap[bm]? = some (.cells #[.int .i64 mi, .int .i64 mt] 32)) (by kernel_rfl) ?_
  refine H_take (i := 0) (v := ?_) rfl (by as_aux_lemma => kernel_rfl) (by as_aux_lemma => kernel_rfl) (by as_aux_lemma => kernel_rfl) (fun _ _ _ h => h) (by rfl) hS ?_ ?_
  rotate_left
  · intro w' hw'; go_simp; with_reducible rfl
  go_simp
  refine H_take (i := 1) (v := ?_) rfl (by as_aux_lemma => kernel_rfl) (by as_aux_lemma => kernel_rfl) (by as_aux_lemma => kernel_rfl) (fun _ _ _ h => h) (by rfl) hS ?_ ?_
  rotate_left
  · intro w' hw'; go_simp; with_reducible rfl
  go_simp
  refine H_take (i := 2) (v := ?_) rfl (by as_aux_lemma => kernel_rfl) (by as_aux_lemma => kernel_rfl) (by as_aux_lemma => kernel_rfl) (fun _ _ _ h => h) (by rfl) hS ?_ ?_
  rotate_left
  · intro w' hw'; go_simp; with_reducible rfl
  go_simp
  refine H_take (i := 3) (v := ?_) rfl (by as_aux_lemma => kernel_rfl) (by as_aux_lemma => kernel_rfl) (by as_aux_lemma => kernel_rfl) (fun _ _ _ h => h) (by rfl) hS ?_ ?_
  rotate_left
  · intro w' hw'; go_simp; with_reducible rfl
  go_simp
  refine H_take (i := 4) (v := ?_) rfl (by as_aux_lemma => kernel_rfl) (by as_aux_lemma => kernel_rfl) (by as_aux_lemma => kernel_rfl) (fun _ _ _ h => h) (by rfl) hS ?_ ?_
  rotate_left
  · intro w' hw'; go_simp; with_reducible rfl
  go_simp
  refine H_one (i := 5) (by as_aux_lemma => kernel_rfl) rfl (by rfl) ?_
  go_simp
  refine (settle_none _ w _ _ Xd g gd size _ d HL0.out rfl rfl mi mt).mono ?_
  rintro e w4 ⟨rfl, hl4⟩
  have hS4 := (hl4.kp bm _ (.inr ⟨rfl, rfl⟩)).1
  have HL4 := Lib.hid hl4
  refine ⟨hS4, ?_⟩
  clear hl4
  go_simp
  refine H_one (i := 6) (by as_aux_lemma => kernel_rfl) rfl (by rfl) ?_
  go_simp
  have hmend := mend_any _ w w4 _ Xd g gd size _ d HL4.out (.func 112) #[] (fun f hf => by cases hf) (fun f hf => by cases hf) ⟨by simp [emptied], by simp [emptied], (fun f hf => by cases hf), HM.out, fun r hr => by cases hr⟩ hP
  have hsy : syncE (emptied ⟨0, 0, [], [], 0⟩ mi mt) d = (0, ⟨mi, mt, [], [], mi⟩, d) := rfl
  rw [hsy] at hmend
  simp only at hmend
  refine hmend.mono ?_
  clear hmend hsy
  rintro e w5 ⟨rfl, Xd5, hl5⟩
  have hS5 := (hl5.kp bm _ (.inr ⟨rfl, rfl⟩)).1
  have HL5 := Lib.hid hl5
  refine ⟨hS5, ?_⟩
  clear hl5
  go_simp
  refine H_take (i := 7) (v := ?_) rfl (by as_aux_lemma => kernel_rfl) (by as_aux_lemma => kernel_rfl) (by as_aux_lemma => kernel_rfl) (fun _ _ _ h => h) (by rfl) hS5 ?_ ?_
  rotate_left
  · intro w' hw'; go_simp; with_reducible rfl
  go_simp
  refine wpAnyH_done (by as_aux_lemma => kernel_rfl) ?_ _
  clear r0 r1 hS hS4 hS5
  go_wp2_with fail
  go_ret2
  exact ⟨g, _, Xd5, rfl, ⟨HL5.out.ds, HL5.out.lg, HL5.out.own, HL5.out.dis, fun k o hko => HL5.out.kp k o (.inl hko)⟩⟩
end Go.Proofs.YtbcpcopapbgcdaaGreatDoor.M

/- Part: SegCut. -/
namespace Go.Proofs.YtbcpcopapbgcdaaGreatDoor.M
open Go.RowKit Go.Maps
open D (Fl Dk)

def fromIx (ix : Int) (f : Fi) : Bool := decide (ix ≤ f.first)

set_option maxRecDepth 20000 in
theorem cutFrom1_any (f : Fi) (ix : Int) (bi : Nat) (W : World) (hb : W.heap[bi]? = some (.cells #[.int .i64 ix] 3)) :
    Calls Tryz.prog 104 #[fiAgg f, .pointer (some ⟨bi, 0, none⟩)] W fun e w' => e = .returned (.bool (fromIx ix f)) ∧ Below W.heap.size W w' := by
  obtain ⟨c0, f0, z0⟩ := block1 hb
  unfold fromIx
  obtain ⟨a, b, c, d, l⟩ := f
  unfold fiAgg
  simp only
  go_enter Tryz.func104, Tryz.ntmps104
  go_wp2_with fail
  go_ret
  exact ⟨rfl, below_alloc _ _⟩

set_option maxRecDepth 20000 in
set_option maxHeartbeats 6400000 in
theorem cutFrom_ok (K : Nat → Obj → Prop) (w wa : World) (X Xd : Nat → Prop) (g gd : Nat) (least : Int) (h : Hd) (d : Dk) (l : LS K w X Xd g gd least h d wa) (ho : HdOk h) (ix : Int) (hix : h.mi < ix ∧ ix ≤ h.last.1) (hsq : h.Seq) (hP : Hid (Pow10 w)) (h1 : Hd) (d1 : Dk) (hst : stripE (fromIx ix) h.files h.files.length h d = (0, h1, d1))
    (hmi : h1.mi = h.mi) (hrl : h1.rows.length ≤ 1000000) (hfl : h1.files.length ≤ 1000000) (hend : ∀ f, h1.files.getLast? = some f → f.last < ix) :
    Calls Tryz.prog 46 #[.pointer (some ⟨g, 0, none⟩), .int .i64 ix] wa fun e w' => e = .returned (.int .i64 0) ∧ LS K w X Xd g gd least (forgetE h1 ix) d1 w' := by
  have hli := last_in ho
  obtain ⟨W1, hW1⟩ : ∃ W1, W1 = wa.alloc (.cells #[.int .i64 ix] 3) := ⟨_, rfl⟩
  obtain ⟨bi, hbi⟩ : ∃ b, b = wa.heap.size := ⟨_, rfl⟩
  have hb1 : Below wa.heap.size wa W1 := by rw [hW1]; exact below_alloc _ _
  have hx1 : W1.heap[bi]? = some (.cells #[.int .i64 ix] 3) := by rw [hW1, hbi]; exact heap_new _ _ _ rfl
  have hnX : ¬ X bi ∧ ¬ Xd bi := by rw [hbi]; exact ⟨fun hx => Nat.lt_irrefl _ (l.lt hx), fun hx => Nat.lt_irrefl _ (l.ds.lt _ hx)⟩
  have hl1 := l.next hb1
  have HL0 := Lib.hid l
  have HL1 := Lib.hid hl1
  have HKB : Hid (W1.heap[bi]? = some (.cells #[.int .i64 ix] 3) ∧ ¬ X bi ∧ ¬ Xd bi) := Lib.hid ⟨hx1, hnX⟩
  have HPL : Hid (∀ W2, Below W1.heap.size W1 W2 → Calls Tryz.prog 65 #[.pointer (some ⟨g, 0, none⟩), .int .i64 ix] W2 fun e w' => e = .returned (.tuple #[.int .i64 (ix - h.mi - 1), .bool true]) ∧ Below W1.heap.size W1 w') := Lib.hid fun W2 hb2 => by
    have := (hl1.next hb2).lg.place_any ho ix
    rw [if_neg (by omega)] at this
    exact this.mono fun e w' hp => ⟨hp.1, hb2.trans (hp.2.mono hb2.size)⟩
  have HST : Hid (∀ W2, Below W1.heap.size W1 W2 → Calls Tryz.prog 103 #[.pointer (some ⟨g, 0, none⟩), .func (.func 104) #[] #[.pointer (some ⟨bi, 0, none⟩)]] W2 fun e w' => e = .returned (.int .i64 0) ∧ LS (fun k o => W1.heap[k]? = some o ∧ ¬ X k ∧ ¬ Xd k) w X Xd g gd least h1 d1 w') := Lib.hid fun W2 hb2 => by
    have := strip_ok _ w W2 X Xd g gd least h d (hl1.keep.next hb2) (fromIx ix) 104 #[.pointer (some ⟨bi, 0, none⟩)] (enters_of Tryz.func104 (by kernel_rfl) rfl)
      (fun f hf W hk => cutFrom1_any f ix bi W (hk _ _ ⟨hx1, hnX⟩)) ho.rl ho.fl ho.m.1 (fun f hf => (ho.fb f hf).1) hP (by rw [hst])
    rw [hst] at this
    exact this
  have HFG : Hid (∀ W2, LS (fun k o => W1.heap[k]? = some o ∧ ¬ X k ∧ ¬ Xd k) w X Xd g gd least h1 d1 W2 → Calls Tryz.prog 106 #[.pointer (some ⟨g, 0, none⟩), .int .i64 ix] W2 fun e w' => e = .returned (.tuple #[]) ∧ LS (fun k o => W1.heap[k]? = some o ∧ ¬ X k ∧ ¬ Xd k) w X Xd g gd least (forgetE h1 ix) d1 w') := Lib.hid fun W2 hl2 =>
    (forget_any _ w W2 X Xd g gd least h1 d1 hl2 hrl (by rw [hmi]; exact ho.m.1) ix (by have := ho.m.1; omega)).mono fun e w' hp => ⟨hp.1, hp.2.1⟩
  have HEND := Lib.hid hend
  have HFL := Lib.hid hfl
  obtain ⟨⟨vr, vf, rv, la⟩, lz⟩ := hl1.lg
  have hrv : rv.length = h.rows.length := by rw [← List.length_map (f := (·.1)), la.rows]
  have hpl : ((ix - h.mi - 1).toNat : Nat) < rv.length := by
    rw [hrv]
    have := hsq.last
    omega
  obtain ⟨pi, hpi⟩ : ∃ pi, pi = (ix - h.mi - 1).toNat := ⟨_, rfl⟩
  rw [← hpi] at hpl
  have hpe : ix - h.mi - 1 = (pi : Int) := by omega
  rw [hpe] at HPL
  obtain ⟨ga, rc, hvr, hgz, -, -, hcs, -⟩ := row5_elem (f := rwV) (fun _ => rfl) la.rrow pi hpl
  subst hvr
  have s4 := hcs 4 (by omega)
  simp only [rwV, List.getElem?_cons_zero, List.getElem?_cons_succ] at s4
  obtain ⟨c0, c1, c2, c3, c4, c5, c6, cz⟩ := seven_cells la.box
  obtain ⟨b0, bf, bz⟩ := block1 hx1
  obtain ⟨po, hpo⟩ : ∃ po, po = rv[pi].1.pos := ⟨_, rfl⟩
  rw [← hpo] at s4
  obtain ⟨nr, hnr⟩ : ∃ nr, nr = rv.length := ⟨_, rfl⟩
  rw [← hnr] at c2 hpl
  have keep : ∀ {q o : Nat} {v : Value}, q < W1.heap.size → W1.cell? ⟨q, o, none⟩ = some v → ∀ w', Below W1.heap.size W1 w' → w'.cell? ⟨q, o, none⟩ = some v := fun {q o v} hq hv w' hb => (World.cell?_of_block (a := ⟨q, o, none⟩) (hb.block q hq)).trans hv
  have r0 := keep bz b0
  have r1 := keep cz c0
  have HR := Lib.hid (And.intro (keep cz c2) (keep hgz s4))
  have hGZ := And.intro cz hgz
  have HGZ := Lib.hid hGZ
  have q0 : decide (ix ≤ h.mi) = false := decide_eq_false (by omega)
  have hp1 : (pi : Int) < (nr : Int) := by omega
  have HW1 := Lib.hid hW1
  have HBI := Lib.hid hbi
  obtain ⟨mi, hmi'⟩ : ∃ mi, mi = h.mi := ⟨_, rfl⟩
  rw [← hmi'] at r1 q0
  have hS : Below W1.heap.size W1 W1.drew := (Below.refl _ _).drew
  clear l hl1 la lz hb1 hx1 hnX hW1 hbi hst hmi hrl hfl hend hrv hpi hpe hcs c1 c2 c3 c4 c5 c6 s4 hpo hnr keep hGZ hmi' hli hix hsq hP bf
  go_enter Tryz.func46, Tryz.ntmps46
  go_wp2_with fail
  rw [← HW1.out]
  rw [← HBI.out]
  refine wp_region_held (S := fun w' => Below W1.heap.size W1 w') (by kernel_rfl) ?_
  refine H_take (i := 0) (v := ?_) rfl (by as_aux_lemma => kernel_rfl) (by as_aux_lemma => kernel_rfl) (by as_aux_lemma => kernel_rfl) (fun _ _ _ h => h) (by rfl) hS ?_ ?_
  rotate_left
  · intro w' hw'; go_simp; with_reducible rfl
  go_simp
  refine H_take (i := 1) (v := ?_) rfl (by as_aux_lemma => kernel_rfl) (by as_aux_lemma => kernel_rfl) (by as_aux_lemma => kernel_rfl) (fun _ _ _ h => h) (by rfl) hS ?_ ?_
  rotate_left
  · intro w' hw'; go_simp; with_reducible rfl
  go_simp
  refine H_take (i := 2) (v := ?_) rfl (by as_aux_lemma => kernel_rfl) (by as_aux_lemma => kernel_rfl) (by as_aux_lemma => kernel_rfl) (fun _ _ _ h => h) (by rfl) hS ?_ ?_
  rotate_left
  · intro w' hw'; go_simp; with_reducible rfl
  go_simp
  refine H_take (i := 3) (v := ?_) rfl (by as_aux_lemma => kernel_rfl) (by as_aux_lemma => kernel_rfl) (by as_aux_lemma => kernel_rfl) (fun _ _ _ h => h) (by rfl) hS ?_ ?_
  rotate_left
  · intro w' hw'; go_simp; with_reducible rfl
  go_simp
  refine H_take (i := 4) (v := ?_) rfl (by as_aux_lemma => kernel_rfl) (by as_aux_lemma => kernel_rfl) (by as_aux_lemma => kernel_rfl) (fun _ _ _ h => h) (by rfl) hS ?_ ?_
  rotate_left
  · intro w' hw'; go_simp; with_reducible rfl
  go_simp
  refine H_take (i := 5) (v := ?_) rfl (by as_aux_lemma => kernel_rfl) (by as_aux_lemma => kernel_rfl) (by as_aux_lemma => kernel_rfl) (fun _ _ _ h => h) (by rfl) hS ?_ ?_
  rotate_left
  · intro w' hw'; go_simp; with_reducible rfl
  go_simp
  refine H_take (i := 6) (v := ?_) rfl (by as_aux_lemma => kernel_rfl) (by as_aux_lemma => kernel_rfl) (by as_aux_lemma => kernel_rfl) (fun _ _ _ h => h) (by rfl) hS ?_ ?_
  rotate_left
  · intro w' hw'; go_simp; with_reducible rfl
  go_simp
  refine H_take (i := 7) (v := ?_) rfl (by as_aux_lemma => kernel_rfl) (by as_aux_lemma => kernel_rfl) (by as_aux_lemma => kernel_rfl) (fun _ _ _ h => h) (by rfl) hS ?_ ?_
  rotate_left
  · intro w' hw'; go_simp; with_reducible rfl
  go_simp
  refine wpAnyH_done (by as_aux_lemma => kernel_rfl) ?_ _
  clear hS
  go_wp2_with fail
  have hS : Below W1.heap.size W1 W1.drew.drew := (Below.refl _ _).drew.drew
  refine wp_region_held (S := fun w' => Below W1.heap.size W1 w') (by kernel_rfl) ?_
  refine H_take (i := 0) (v := ?_) rfl (by as_aux_lemma => kernel_rfl) (by as_aux_lemma => kernel_rfl) (by as_aux_lemma => kernel_rfl) (fun _ _ _ h => h) (by rfl) hS ?_ ?_
  rotate_left
  · intro w' hw'; go_simp; with_reducible rfl
  go_simp
  refine H_take (i := 1) (v := ?_) rfl (by as_aux_lemma => kernel_rfl) (by as_aux_lemma => kernel_rfl) (by as_aux_lemma => kernel_rfl) (fun _ _ _ h => h) (by rfl) hS ?_ ?_
  rotate_left
  · intro w' hw'; go_simp; with_reducible rfl
  go_simp
  refine H_take (i := 2) (v := ?_) rfl (by as_aux_lemma => kernel_rfl) (by as_aux_lemma => kernel_rfl) (by as_aux_lemma => kernel_rfl) (fun _ _ _ h => h) (by rfl) hS ?_ ?_
  rotate_left
  · intro w' hw'; go_simp; with_reducible rfl
  go_simp
  refine H_take (i := 3) (v := ?_) rfl (by as_aux_lemma => kernel_rfl) (by as_aux_lemma => kernel_rfl) (by as_aux_lemma => kernel_rfl) (fun _ _ _ h => h) (by rfl) hS ?_ ?_
  rotate_left
  · intro w' hw'; go_simp; with_reducible rfl
  go_simp
  refine H_one (i := 4) (by as_aux_lemma => kernel_rfl) rfl (by rfl) ?_
  go_simp
  refine (HPL.out W1.drew.drew hS).mono ?_
  rintro e w2 ⟨rfl, hS2⟩
  refine ⟨hS2, ?_⟩
  go_simp
  refine H_take (i := 5) (v := ?_) rfl (by as_aux_lemma => kernel_rfl) (by as_aux_lemma => kernel_rfl) (by as_aux_lemma => kernel_rfl) (fun _ _ _ h => h) (by rfl) hS2 ?_ ?_
  rotate_left
  · intro w' hw'; go_simp; with_reducible rfl
  go_simp
  refine H_take (i := 6) (v := ?_) rfl (by as_aux_lemma => kernel_rfl) (by as_aux_lemma => kernel_rfl) (by as_aux_lemma => kernel_rfl) (fun _ _ _ h => h) (by rfl) hS2 ?_ ?_
  rotate_left
  · intro w' hw'; go_simp; with_reducible rfl
  go_simp
  refine H_take (i := 7) (v := ?_) rfl (by as_aux_lemma => kernel_rfl) (by as_aux_lemma => kernel_rfl) (by as_aux_lemma => kernel_rfl) (fun _ _ _ h => h) (by rfl) hS2 ?_ ?_
  rotate_left
  · intro w' hw'; go_simp; with_reducible rfl
  go_simp
  refine H_take (i := 8) (v := ?_) rfl (by as_aux_lemma => kernel_rfl) (by as_aux_lemma => kernel_rfl) (by as_aux_lemma => kernel_rfl) (fun _ _ _ h => h) (by rfl) hS2 ?_ ?_
  rotate_left
  · intro w' hw'; go_simp; with_reducible rfl
  go_simp
  refine H_take (i := 9) (v := ?_) rfl (by as_aux_lemma => kernel_rfl) (by as_aux_lemma => kernel_rfl) (by as_aux_lemma => kernel_rfl) (fun _ _ _ h => h) (by rfl) hS2 ?_ ?_
  rotate_left
  · intro w' hw'; go_simp; with_reducible rfl
  go_simp
  refine wpAnyH_done (by as_aux_lemma => kernel_rfl) ?_ _
  have c2 := HR.out.1 w2 hS2
  have s4 := HR.out.2 w2 hS2
  have cz := Nat.lt_of_lt_of_le HGZ.out.1 hS2.size
  have sz := Nat.lt_of_lt_of_le HGZ.out.2 hS2.size
  have HS2 := Lib.hid hS2
  clear r0 r1 hS hS2
  go_wp2_with fail
  refine (HST.out w2 HS2.out).mono ?_
  rintro e w4 ⟨rfl, hl4⟩
  have HL4 := Lib.hid hl4
  have HBI4 := Lib.hid (hl4.kp bi _ HKB.out).1
  obtain ⟨⟨vr4, vf4, rv4, la4⟩, lz4⟩ := hl4.lg
  clear c0 b0 bz c2 s4 cz sz hp1 q0 hl4 lz4 hpl hgz
  obtain ⟨b0, bf, bz⟩ := block1 HBI4.out
  clear bf
  rcases Nat.eq_zero_or_pos h1.files.length with hn0 | hnp
  · obtain ⟨fa, fc, rfl, -, -⟩ := row5_slice la4.frow
    obtain ⟨-, -, -, c3, -, -, -, cz⟩ := seven_cells la4.box
    rw [hn0] at c3
    have r0 : ∀ w', Below w4.heap.size w4 w' → w'.cell? ⟨bi, 0, none⟩ = some (.int .i64 ix) := fun w' hb => (World.cell?_of_block (a := ⟨bi, 0, none⟩) (hb.block bi bz)).trans b0
    have hS : Below w4.heap.size w4 w4.drew := (Below.refl _ _).drew
    clear la4 hn0
    go_wp2_with fail
    clear c3 cz b0 bz
    refine wp_region_held (S := fun w' => Below w4.heap.size w4 w') (by kernel_rfl) ?_
    refine H_take (i := 0) (v := ?_) rfl (by as_aux_lemma => kernel_rfl) (by as_aux_lemma => kernel_rfl) (by as_aux_lemma => kernel_rfl) (fun _ _ _ h => h) (by rfl) hS ?_ ?_
    rotate_left
    · intro w' hw'; go_simp; with_reducible rfl
    go_simp
    refine H_take (i := 1) (v := ?_) rfl (by as_aux_lemma => kernel_rfl) (by as_aux_lemma => kernel_rfl) (by as_aux_lemma => kernel_rfl) (fun _ _ _ h => h) (by rfl) hS ?_ ?_
    rotate_left
    · intro w' hw'; go_simp; with_reducible rfl
    go_simp
    refine H_take (i := 2) (v := ?_) rfl (by as_aux_lemma => kernel_rfl) (by as_aux_lemma => kernel_rfl) (by as_aux_lemma => kernel_rfl) (fun _ _ _ h => h) (by rfl) hS ?_ ?_
    rotate_left
    · intro w' hw'; go_simp; with_reducible rfl
    go_simp
    refine H_skip (i := 3) rfl (by as_aux_lemma => kernel_rfl) (by as_aux_lemma => kernel_rfl) (by as_aux_lemma => kernel_rfl) (fun _ _ _ h => h) (by rfl) hS ?_
    go_simp
    refine H_skip (i := 4) rfl (by as_aux_lemma => kernel_rfl) (by as_aux_lemma => kernel_rfl) (by as_aux_lemma => kernel_rfl) (fun _ _ _ h => h) (by rfl) hS ?_
    go_simp
    refine H_skip (i := 5) rfl (by as_aux_lemma => kernel_rfl) (by as_aux_lemma => kernel_rfl) (by as_aux_lemma => kernel_rfl) (fun _ _ _ h => h) (by rfl) hS ?_
    go_simp
    refine H_skip (i := 6) rfl (by as_aux_lemma => kernel_rfl) (by as_aux_lemma => kernel_rfl) (by as_aux_lemma => kernel_rfl) (fun _ _ _ h => h) (by rfl) hS ?_
    go_simp
    refine H_skip (i := 7) rfl (by as_aux_lemma => kernel_rfl) (by as_aux_lemma => kernel_rfl) (by as_aux_lemma => kernel_rfl) (fun _ _ _ h => h) (by rfl) hS ?_
    go_simp
    refine H_skip (i := 8) rfl (by as_aux_lemma => kernel_rfl) (by as_aux_lemma => kernel_rfl) (by as_aux_lemma => kernel_rfl) (fun _ _ _ h => h) (by rfl) hS ?_
    go_simp
    refine H_skip (i := 9) rfl (by as_aux_lemma => kernel_rfl) (by as_aux_lemma => kernel_rfl) (by as_aux_lemma => kernel_rfl) (fun _ _ _ h => h) (by rfl) hS ?_
    go_simp
    refine H_skip (i := 10) rfl (by as_aux_lemma => kernel_rfl) (by as_aux_lemma => kernel_rfl) (by as_aux_lemma => kernel_rfl) (fun _ _ _ h => h) (by rfl) hS ?_
    go_simp
    refine H_skip (i := 11) rfl (by as_aux_lemma => kernel_rfl) (by as_aux_lemma => kernel_rfl) (by as_aux_lemma => kernel_rfl) (fun _ _ _ h => h) (by rfl) hS ?_
    go_simp
    refine H_skip (i := 12) rfl (by as_aux_lemma => kernel_rfl) (by as_aux_lemma => kernel_rfl) (by as_aux_lemma => kernel_rfl) (fun _ _ _ h => h) (by rfl) hS ?_
    go_simp
    refine H_skip (i := 13) rfl (by as_aux_lemma => kernel_rfl) (by as_aux_lemma => kernel_rfl) (by as_aux_lemma => kernel_rfl) (fun _ _ _ h => h) (by rfl) hS ?_
    go_simp
    refine H_skip (i := 14) rfl (by as_aux_lemma => kernel_rfl) (by as_aux_lemma => kernel_rfl) (by as_aux_lemma => kernel_rfl) (fun _ _ _ h => h) (by rfl) hS ?_
    go_simp
    refine H_take (i := 15) (v := ?_) rfl (by as_aux_lemma => kernel_rfl) (by as_aux_lemma => kernel_rfl) (by as_aux_lemma => kernel_rfl) (fun _ _ _ h => h) (by rfl) hS ?_ ?_
    rotate_left
    · intro w' hw'; go_simp; with_reducible rfl
    go_simp
    refine wpAnyH_done (by as_aux_lemma => kernel_rfl) ?_ _
    clear r0 hS
    go_wp2_with fail
    have r1 : ∀ w' : World, w'.heap[bi]? = some (.cells #[.int .i64 ix] 3) → w'.cell? ⟨bi, 0, none⟩ = some (.int .i64 ix) := fun w' h => cell_of_row _ _ 0 _ _ _ h
    have hS : w4.drew.drew.heap[bi]? = some (.cells #[.int .i64 ix] 3) := HBI4.out
    refine wp_region_held (S := fun w' : World => w'.heap[bi]? = some (.cells #[.int .i64 ix] 3)) (by kernel_rfl) ?_
    refine H_take (i := 0) (v := ?_) rfl (by as_aux_lemma => kernel_rfl) (by as_aux_lemma => kernel_rfl) (by as_aux_lemma => kernel_rfl) (fun _ _ _ h => h) (by rfl) hS ?_ ?_
    rotate_left
    · intro w' hw'; go_simp; with_reducible rfl
    go_simp
    refine H_take (i := 1) (v := ?_) rfl (by as_aux_lemma => kernel_rfl) (by as_aux_lemma => kernel_rfl) (by as_aux_lemma => kernel_rfl) (fun _ _ _ h => h) (by rfl) hS ?_ ?_
    rotate_left
    · intro w' hw'; go_simp; with_reducible rfl
    go_simp
    refine H_take (i := 2) (v := ?_) rfl (by as_aux_lemma => kernel_rfl) (by as_aux_lemma => kernel_rfl) (by as_aux_lemma => kernel_rfl) (fun _ _ _ h => h) (by rfl) hS ?_ ?_
    rotate_left
    · intro w' hw'; go_simp; with_reducible rfl
    go_simp
    refine H_take (i := 3) (v := ?_) rfl (by as_aux_lemma => kernel_rfl) (by as_aux_lemma => kernel_rfl) (by as_aux_lemma => kernel_rfl) (fun _ _ _ h => h) (by rfl) hS ?_ ?_
    rotate_left
    · intro w' hw'; go_simp; with_reducible rfl
    go_simp
    refine H_one (i := 4) (by as_aux_lemma => kernel_rfl) rfl (by rfl) ?_
    go_simp
    refine (HFG.out w4.drew.drew (HL4.out.next (Below.refl _ w4).drew.drew)).mono ?_
    rintro e w5 ⟨rfl, hl5⟩
    have HL5 := Lib.hid (HL1.out.stay hl5)
    have hS5 := (hl5.kp bi _ HKB.out).1
    refine ⟨hS5, ?_⟩
    clear hl5
    go_simp
    refine wpAnyH_done (by as_aux_lemma => kernel_rfl) ?_ _
    clear r1 hS hS5
    go_wp2_with fail
    go_ret
    exact ⟨rfl, HL5.out⟩
  · obtain ⟨n', hn'⟩ : ∃ n', h1.files.length = n' + 1 := ⟨h1.files.length - 1, by omega⟩
    obtain ⟨ga4, fc, hvf, hgz4, -, -, hcs4, -⟩ := row5_elem (f := fiV) (fun _ => rfl) la4.frow n' (by omega)
    subst hvf
    have hlast := HEND.out (h1.files[n']'(by omega)) (by simp [List.getLast?_eq_getElem?, hn'])
    have s1 := hcs4 1 (by omega)
    obtain ⟨f, hf⟩ : ∃ f, f = h1.files[n']'(by omega) := ⟨_, rfl⟩
    rw [← hf] at hlast s1
    simp only [fiV, List.getElem?_cons_zero, List.getElem?_cons_succ] at s1
    obtain ⟨fl, hfl⟩ : ∃ fl, fl = f.last := ⟨_, rfl⟩
    rw [← hfl] at hlast s1
    obtain ⟨-, -, -, c3, -, -, -, cz⟩ := seven_cells la4.box
    obtain ⟨nf, hnf⟩ : ∃ nf, nf = h1.files.length := ⟨_, rfl⟩
    rw [← hnf] at c3
    have hx : (nf : Int) - 1 = (n' : Int) := by omega
    have hx2 : (n' : Int) < (nf : Int) := by omega
    have hx3 : decide ((0 : Int) < (nf : Int)) = true := decide_eq_true (by omega)
    have hx5 : decide (0 < nf) = true := decide_eq_true (by omega)
    have hx6 : 0 < nf := by omega
    have hx4 : (nf : Int) ≤ 1000000 := by have := HFL.out; omega
    have hx7 : IntKind.i64.wrap (n' : Int) = (n' : Int) := IntWalk.i64_in _ (by omega)
    have q1 : decide (ix ≤ fl) = false := decide_eq_false (by omega)
    have keep : ∀ {q o : Nat} {v : Value}, q < w4.heap.size → w4.cell? ⟨q, o, none⟩ = some v → ∀ w', Below w4.heap.size w4 w' → w'.cell? ⟨q, o, none⟩ = some v := fun {q o v} hq hv w' hb => (World.cell?_of_block (a := ⟨q, o, none⟩) (hb.block q hq)).trans hv
    have r0 := keep bz b0
    have r2 := keep cz c3
    have r3 := keep hgz4 s1
    have hS : Below w4.heap.size w4 w4.drew := (Below.refl _ _).drew
    clear la4 hnp hn' hcs4 hf hfl hnf keep s1 hlast b0
    go_wp2_with fail
    clear c3 cz bz hgz4
    refine wp_region_held (S := fun w' => Below w4.heap.size w4 w') (by kernel_rfl) ?_
    refine H_take (i := 0) (v := ?_) rfl (by as_aux_lemma => kernel_rfl) (by as_aux_lemma => kernel_rfl) (by as_aux_lemma => kernel_rfl) (fun _ _ _ h => h) (by rfl) hS ?_ ?_
    rotate_left
    · intro w' hw'; go_simp; with_reducible rfl
    go_simp
    refine H_take (i := 1) (v := ?_) rfl (by as_aux_lemma => kernel_rfl) (by as_aux_lemma => kernel_rfl) (by as_aux_lemma => kernel_rfl) (fun _ _ _ h => h) (by rfl) hS ?_ ?_
    rotate_left
    · intro w' hw'; go_simp; with_reducible rfl
    go_simp
    refine H_take (i := 2) (v := ?_) rfl (by as_aux_lemma => kernel_rfl) (by as_aux_lemma => kernel_rfl) (by as_aux_lemma => kernel_rfl) (fun _ _ _ h => h) (by rfl) hS ?_ ?_
    rotate_left
    · intro w' hw'; go_simp; with_reducible rfl
    go_simp
    refine H_take (i := 3) (v := ?_) rfl (by as_aux_lemma => kernel_rfl) (by as_aux_lemma => kernel_rfl) (by as_aux_lemma => kernel_rfl) (fun _ _ _ h => h) (by rfl) hS ?_ ?_
    rotate_left
    · intro w' hw'; go_simp; with_reducible rfl
    go_simp
    refine H_take (i := 4) (v := ?_) rfl (by as_aux_lemma => kernel_rfl) (by as_aux_lemma => kernel_rfl) (by as_aux_lemma => kernel_rfl) (fun _ _ _ h => h) (by rfl) hS ?_ ?_
    rotate_left
    · intro w' hw'; go_simp; with_reducible rfl
    go_simp
    refine H_take (i := 5) (v := ?_) rfl (by as_aux_lemma => kernel_rfl) (by as_aux_lemma => kernel_rfl) (by as_aux_lemma => kernel_rfl) (fun _ _ _ h => h) (by rfl) hS ?_ ?_
    rotate_left
    · intro w' hw'; go_simp; with_reducible rfl
    go_simp
    refine H_take (i := 6) (v := ?_) rfl (by as_aux_lemma => kernel_rfl) (by as_aux_lemma => kernel_rfl) (by as_aux_lemma => kernel_rfl) (fun _ _ _ h => h) (by rfl) hS ?_ ?_
    rotate_left
    · intro w' hw'; go_simp; with_reducible rfl
    go_simp
    refine H_take (i := 7) (v := ?_) rfl (by as_aux_lemma => kernel_rfl) (by as_aux_lemma => kernel_rfl) (by as_aux_lemma => kernel_rfl) (fun _ _ _ h => h) (by rfl) hS ?_ ?_
    rotate_left
    · intro w' hw'; go_simp; with_reducible rfl
    go_simp
    refine H_take (i := 8) (v := ?_) rfl (by as_aux_lemma => kernel_rfl) (by as_aux_lemma => kernel_rfl) (by as_aux_lemma => kernel_rfl) (fun _ _ _ h => h) (by rfl) hS ?_ ?_
    rotate_left
    · intro w' hw'; go_simp; with_reducible rfl
    go_simp
    refine H_take (i := 9) (v := ?_) rfl (by as_aux_lemma => kernel_rfl) (by as_aux_lemma => kernel_rfl) (by as_aux_lemma => kernel_rfl) (fun _ _ _ h => h) (by rfl) hS ?_ ?_
    rotate_left
    · intro w' hw'; go_simp; with_reducible rfl
    go_simp
    refine H_take (i := 10) (v := ?_) rfl (by as_aux_lemma => kernel_rfl) (by as_aux_lemma => kernel_rfl) (by as_aux_lemma => kernel_rfl) (fun _ _ _ h => h) (by rfl) hS ?_ ?_
    rotate_left
    · intro w' hw'; go_simp; with_reducible rfl
    go_simp
    refine H_take (i := 11) (v := ?_) rfl (by as_aux_lemma => kernel_rfl) (by as_aux_lemma => kernel_rfl) (by as_aux_lemma => kernel_rfl) (fun _ _ _ h => h) (by rfl) hS ?_ ?_
    rotate_left
    · intro w' hw'; go_simp; with_reducible rfl
    go_simp
    refine H_take (i := 12) (v := ?_) rfl (by as_aux_lemma => kernel_rfl) (by as_aux_lemma => kernel_rfl) (by as_aux_lemma => kernel_rfl) (fun _ _ _ h => h) (by rfl) hS ?_ ?_
    rotate_left
    · intro w' hw'; go_simp; with_reducible rfl
    go_simp
    refine H_take (i := 13) (v := ?_) rfl (by as_aux_lemma => kernel_rfl) (by as_aux_lemma => kernel_rfl) (by as_aux_lemma => kernel_rfl) (fun _ _ _ h => h) (by rfl) hS ?_ ?_
    rotate_left
    · intro w' hw'; go_simp; with_reducible rfl
    go_simp
    refine H_take (i := 14) (v := ?_) rfl (by as_aux_lemma => kernel_rfl) (by as_aux_lemma => kernel_rfl) (by as_aux_lemma => kernel_rfl) (fun _ _ _ h => h) (by rfl) hS ?_ ?_
    rotate_left
    · intro w' hw'; go_simp; with_reducible rfl
    go_simp
    refine H_take (i := 15) (v := ?_) rfl (by as_aux_lemma => kernel_rfl) (by as_aux_lemma => kernel_rfl) (by as_aux_lemma => kernel_rfl) (fun _ _ _ h => h) (by rfl) hS ?_ ?_
    rotate_left
    · intro w' hw'; go_simp; with_reducible rfl
    go_simp
    refine wpAnyH_done (by as_aux_lemma => kernel_rfl) ?_ _
    clear r0 hS
    go_wp2_with fail
    have r1 : ∀ w' : World, w'.heap[bi]? = some (.cells #[.int .i64 ix] 3) → w'.cell? ⟨bi, 0, none⟩ = some (.int .i64 ix) := fun w' h => cell_of_row _ _ 0 _ _ _ h
    have hS : w4.drew.drew.heap[bi]? = some (.cells #[.int .i64 ix] 3) := HBI4.out
    refine wp_region_held (S := fun w' : World => w'.heap[bi]? = some (.cells #[.int .i64 ix] 3)) (by kernel_rfl) ?_
    refine H_take (i := 0) (v := ?_) rfl (by as_aux_lemma => kernel_rfl) (by as_aux_lemma => kernel_rfl) (by as_aux_lemma => kernel_rfl) (fun _ _ _ h => h) (by rfl) hS ?_ ?_
    rotate_left
    · intro w' hw'; go_simp; with_reducible rfl
    go_simp
    refine H_take (i := 1) (v := ?_) rfl (by as_aux_lemma => kernel_rfl) (by as_aux_lemma => kernel_rfl) (by as_aux_lemma => kernel_rfl) (fun _ _ _ h => h) (by rfl) hS ?_ ?_
    rotate_left
    · intro w' hw'; go_simp; with_reducible rfl
    go_simp
    refine H_take (i := 2) (v := ?_) rfl (by as_aux_lemma => kernel_rfl) (by as_aux_lemma => kernel_rfl) (by as_aux_lemma => kernel_rfl) (fun _ _ _ h => h) (by rfl) hS ?_ ?_
    rotate_left
    · intro w' hw'; go_simp; with_reducible rfl
    go_simp
    refine H_take (i := 3) (v := ?_) rfl (by as_aux_lemma => kernel_rfl) (by as_aux_lemma => kernel_rfl) (by as_aux_lemma => kernel_rfl) (fun _ _ _ h => h) (by rfl) hS ?_ ?_
    rotate_left
    · intro w' hw'; go_simp; with_reducible rfl
    go_simp
    refine H_one (i := 4) (by as_aux_lemma => kernel_rfl) rfl (by rfl) ?_
    go_simp
    refine (HFG.out w4.drew.drew (HL4.out.next (Below.refl _ w4).drew.drew)).mono ?_
    rintro e w5 ⟨rfl, hl5⟩
    have HL5 := Lib.hid (HL1.out.stay hl5)
    have hS5 := (hl5.kp bi _ HKB.out).1
    refine ⟨hS5, ?_⟩
    clear hl5
    go_simp
    refine wpAnyH_done (by as_aux_lemma => kernel_rfl) ?_ _
    clear r1 hS hS5
    go_wp2_with fail
    go_ret
    exact ⟨rfl, HL5.out⟩
end Go.Proofs.YtbcpcopapbgcdaaGreatDoor.M

/- Part: SegCt1. -/
namespace Go.Proofs.YtbcpcopapbgcdaaGreatDoor.M
open Go.RowKit Go.Maps
open D (Fl Dk)

/-- What cutting a file leaves. -/
def cutE (h : Hd) (d : Dk) (i : Nat) (f : Fi) (size last : Int) : Int × Hd × Dk :=
  ((D.cut d (sgName f.first) size).1, if (D.cut d (sgName f.first) size).1 = 0 then { h with files := h.files.set i { f with size := size, torn := 0, last := last } } else h, (D.cut d (sgName f.first) size).2)

theorem fiCells_cut (fs : List Fi) (i : Nat) (h : i < fs.length) (size last : Int) :
    (((fiCells fs).set (i * 5 + 2) (.int .i64 size)).set (i * 5 + 3) (.int .i64 0)).set (i * 5 + 1) (.int .i64 last) = fiCells (fs.set i { fs[i] with size := size, torn := 0, last := last }) := by
  have e1 : fs = fs.take i ++ (fs[i] :: fs.drop (i + 1)) := by rw [← List.drop_eq_getElem_cons h, List.take_append_drop]
  have hl : (fiCells (fs.take i)).length = i * 5 := by rw [fiCells_length, List.length_take]; congr 1; omega
  have e2 : fs.set i { fs[i] with size := size, torn := 0, last := last } = fs.take i ++ ({ fs[i] with size := size, torn := 0, last := last } :: fs.drop (i + 1)) := by
    rw [List.set_eq_take_append_cons_drop, if_pos h]
  rw [e2, fiCells_app]
  have e3 : fiCells fs = fiCells (fs.take i) ++ fiCells (fs[i] :: fs.drop (i + 1)) := by rw [← fiCells_app, ← e1]
  rw [e3]
  generalize fiCells (fs.take i) = A at *
  rw [List.set_append_right _ _ (by omega), List.set_append_right _ _ (by omega), List.set_append_right _ _ (by omega), hl, show i * 5 + 2 - i * 5 = 2 by omega, show i * 5 + 3 - i * 5 = 3 by omega, show i * 5 + 1 - i * 5 = 1 by omega]
  rfl

set_option maxRecDepth 20000 in
set_option maxHeartbeats 3200000 in
theorem segCut_any (K : Nat → Obj → Prop) (w wa : World) (X Xd : Nat → Prop) (g gd : Nat) (least : Int) (h : Hd) (d : Dk) (l : LS K w X Xd g gd least h d wa) (i : Nat) (f : Fi) (hf : h.files[i]? = some f) (hl : h.files.length ≤ 1000000) (hb : 0 ≤ f.first ∧ f.first < 10000000000) (size last : Int) (hs : -9223372036854775808 ≤ size ∧ size ≤ 9223372036854775807) (hP : Hid (Pow10 w)) :
    Calls Tryz.prog 105 #[.pointer (some ⟨g, 0, none⟩), .int .i64 (i : Int), .int .i64 size, .int .i64 last] wa fun e w' => e = .returned (.int .i64 (cutE h d i f size last).1) ∧ ∃ Xd', LS K w X Xd' g gd least (cutE h d i f size last).2.1 (cutE h d i f size last).2.2 w' := by
  have HL := Lib.hid l
  obtain ⟨⟨vr, vf, rv, la⟩, lz⟩ := l.lg
  obtain ⟨c0, c1, c2, c3, c4, c5, c6, cz⟩ := seven_cells la.box
  obtain ⟨hil, hfi⟩ := List.getElem?_eq_some_iff.1 hf
  obtain ⟨ga, fc, hvf, hgz, hlc, hcm, hcs, -⟩ := row5_elem (f := fiV) (fun _ => rfl) la.frow i hil
  have s0 := hcs 0 (by omega)
  rw [hfi] at s0
  simp only [fiV, List.getElem?_cons_zero, Nat.add_zero] at s0
  have hX : ∀ k, X k → ¬ Xd k := l.dis
  have hgX := la.fg
  have hga := la.ff ga (by rw [hvf]; rfl)
  have keep : ∀ {q o : Nat} {v : Value}, X q → wa.cell? ⟨q, o, none⟩ = some v → ∀ w', Only Xd wa w' → w'.cell? ⟨q, o, none⟩ = some v := fun {q o v} hq hv w' ho => (World.cell?_of_block (a := ⟨q, o, none⟩) (ho.block q (lz q hq) (hX q hq))).trans hv
  have HLA := Lib.hid la
  have r0 := keep hgX c5
  have r2 := keep hga.1 s0
  have hS : Only Xd wa wa.drew := (Only.refl _ _).drawn
  have HDR := Lib.hid ((l.next (Below.refl _ wa).drew))
  have HLZ := Lib.hid lz
  have HX := Lib.hid hX
  obtain ⟨nf, hnf⟩ : ∃ nf, nf = h.files.length := ⟨_, rfl⟩
  rw [hvf, ← hnf] at c3
  have q1 : (i : Int) < (nf : Int) := by omega
  have HNF := Lib.hid hnf
  have HVF := Lib.hid hvf
  have HBD := Lib.hid hb
  have HIL := Lib.hid hil
  have HFI : Hid (∀ _ : i < h.files.length, h.files[i] = f) := Lib.hid fun _ => hfi
  have HSZ := Lib.hid hs
  have hgz' := lz _ hga.1
  obtain ⟨ff, hff⟩ : ∃ ff, ff = f.first := ⟨_, rfl⟩
  rw [← hff] at r2
  have HFF := Lib.hid hff
  clear l la lz c0 c1 c2 c4 c5 c6 hil hlc hcm hcs hfi s0 hX hgX hga keep hnf hvf hf hl hff hb hs
  go_enter Tryz.func105, Tryz.ntmps105
  go_wp2_with fail
  clear c3 cz
  refine wp_region_held (S := fun w' => Only Xd wa w') (by kernel_rfl) ?_
  refine H_take (i := 0) (v := ?_) rfl (by as_aux_lemma => kernel_rfl) (by as_aux_lemma => kernel_rfl) (by as_aux_lemma => kernel_rfl) (fun _ _ _ h => h) (by rfl) hS ?_ ?_
  rotate_left
  · intro w' hw'; go_simp; with_reducible rfl
  go_simp
  refine H_take (i := 1) (v := ?_) rfl (by as_aux_lemma => kernel_rfl) (by as_aux_lemma => kernel_rfl) (by as_aux_lemma => kernel_rfl) (fun _ _ _ h => h) (by rfl) hS ?_ ?_
  rotate_left
  · intro w' hw'; go_simp; with_reducible rfl
  go_simp
  refine H_take (i := 2) (v := ?_) rfl (by as_aux_lemma => kernel_rfl) (by as_aux_lemma => kernel_rfl) (by as_aux_lemma => kernel_rfl) (fun _ _ _ h => h) (by rfl) hS ?_ ?_
  rotate_left
  · intro w' hw'; go_simp; with_reducible rfl
  go_simp
  refine H_take (i := 3) (v := ?_) rfl (by as_aux_lemma => kernel_rfl) (by as_aux_lemma => kernel_rfl) (by as_aux_lemma => kernel_rfl) (fun _ _ _ h => h) (by rfl) hS ?_ ?_
  rotate_left
  · intro w' hw'; go_simp; with_reducible rfl
  go_simp
  refine H_take (i := 4) (v := ?_) rfl (by as_aux_lemma => kernel_rfl) (by as_aux_lemma => kernel_rfl) (by as_aux_lemma => kernel_rfl) (fun _ _ _ h => h) (by rfl) hS ?_ ?_
  rotate_left
  · intro w' hw'; go_simp; with_reducible rfl
  go_simp
  refine H_take (i := 5) (v := ?_) rfl (by as_aux_lemma => kernel_rfl) (by as_aux_lemma => kernel_rfl) (by as_aux_lemma => kernel_rfl) (fun _ _ _ h => h) (by rfl) hS ?_ ?_
  rotate_left
  · intro w' hw'; go_simp; with_reducible rfl
  go_simp
  refine H_take (i := 6) (v := ?_) rfl (by as_aux_lemma => kernel_rfl) (by as_aux_lemma => kernel_rfl) (by as_aux_lemma => kernel_rfl) (fun _ _ _ h => h) (by rfl) hS ?_ ?_
  rotate_left
  · intro w' hw'; go_simp; with_reducible rfl
  go_simp
  refine H_take (i := 7) (v := ?_) rfl (by as_aux_lemma => kernel_rfl) (by as_aux_lemma => kernel_rfl) (by as_aux_lemma => kernel_rfl) (fun _ _ _ h => h) (by rfl) hS ?_ ?_
  rotate_left
  · intro w' hw'; go_simp; with_reducible rfl
  go_simp
  refine H_take (i := 9) (v := ?_) rfl (by as_aux_lemma => kernel_rfl) (by as_aux_lemma => kernel_rfl) (by as_aux_lemma => kernel_rfl) (fun _ _ _ h => h) (by rfl) hS ?_ ?_
  rotate_left
  · intro w' hw'; go_simp; with_reducible rfl
  go_simp
  refine H_one (i := 8) (by as_aux_lemma => kernel_rfl) rfl (by rfl) ?_
  go_simp
  refine (nameOf_any ff wa.drew (by rw [HFF.out]; exact HBD.out.1) (by rw [HFF.out]; exact HBD.out.2) (Lib.hid (hP.out.next HDR.out.below))).mono ?_
  rintro e w1 ⟨rfl, hb1⟩
  have HB1 : Hid (Below wa.heap.size wa w1) := Lib.hid ((Below.refl _ wa).drew.trans hb1)
  have hS1 : Only Xd wa w1 := (Only.refl _ _).next HB1.out
  refine ⟨hS1, ?_⟩
  clear hb1
  go_simp
  have HL1 := Lib.hid (HL.out.next HB1.out)
  refine H_one (i := 10) (by as_aux_lemma => kernel_rfl) rfl (by rfl) ?_
  go_simp
  refine (DCut HL1.out.ds (sgName ff) size (by
    unfold sgName
    have := dg_length 10 ff.toNat
    simp [ByteArray.size]
    omega) HSZ.out.1 HSZ.out.2).mono ?_
  intro e w3 hp3
  have hS3 : Only Xd wa w3 := hS1.then hp3.2.1
  obtain ⟨rfl, Xd', hl3⟩ := HL1.out.disk hp3
  have HL3 := Lib.hid hl3
  have HO3 := Lib.hid hS3
  refine ⟨hS3, ?_⟩
  clear hp3 hl3
  go_simp
  refine H_take (i := 11) (v := ?_) rfl (by as_aux_lemma => kernel_rfl) (by as_aux_lemma => kernel_rfl) (by as_aux_lemma => kernel_rfl) (fun _ _ _ h => h) (by rfl) hS3 ?_ ?_
  rotate_left
  · intro w' hw'; go_simp; with_reducible rfl
  go_simp
  refine wpAnyH_done (by as_aux_lemma => kernel_rfl) ?_ _
  clear r0 r2 hS hS1 hS3
  have HLA3 : Hid (LgAt w3 X g gd least h vr vf rv) := Lib.hid (HLA.out.same (fun _ h => h) fun k hk => HO3.out.block k (HLZ.out k hk) (HX.out k hk))
  obtain ⟨rr, hrr⟩ : ∃ rr, rr = (D.cut d (sgName ff) size).1 := ⟨_, rfl⟩
  rw [← hrr]
  have HRR := Lib.hid hrr
  clear hrr
  by_cases hr : rr = 0
  · subst hr
    have hrow := HLA3.out.frow
    rw [HVF.out, ← HNF.out] at hrow
    obtain ⟨t1, t2⟩ := hrow.stored (i * 5 + 2) (.int .i64 size)
    obtain ⟨t3, t4⟩ := t1.stored (i * 5 + 3) (.int .i64 0)
    obtain ⟨t5, t6⟩ := t3.stored (i * 5 + 1) (.int .i64 last)
    obtain ⟨W5, hW5⟩ : ∃ W5, W5 = (((w3.setCell ⟨ga, i * 5 + 2, none⟩ (.int .i64 size)).setCell ⟨ga, i * 5 + 3, none⟩ (.int .i64 0)).setCell ⟨ga, i * 5 + 1, none⟩ (.int .i64 last)) := ⟨_, rfl⟩
    rw [← hW5] at t5 t6
    have hcell : ∀ j, j < 5 → ∃ u, w3.cell? ⟨ga, i * 5 + j, none⟩ = some u := fun j hj => by
      have hlen : (fiCells h.files).length = h.files.length * 5 := fiCells_length _
      have := HIL.out
      exact ⟨_, (hrow.cellAt (i * 5 + j) (by omega)).trans (List.getElem?_eq_getElem (by omega))⟩
    obtain ⟨u1, d1⟩ := hcell 1 (by omega)
    obtain ⟨u2, d2⟩ := hcell 2 (by omega)
    obtain ⟨u3, d3⟩ := hcell 3 (by omega)
    have z1 := hrow.frozenAt (i * 5 + 1)
    have z2 := hrow.frozenAt (i * 5 + 2)
    have z3 := hrow.frozenAt (i * 5 + 3)
    have gz3 : ga < w3.heap.size := Nat.lt_of_lt_of_le hgz HO3.out.size
    have HON : Hid (Only (fun k => vf.ownBlock = some k) w3 W5) := Lib.hid (by
      rw [HVF.out]
      exact ((only_grown t2).then (only_grown t4)).then (only_grown t6))
    have HROW : Hid (W5.ownsRow 0 114 5 vf (h.files.set i { f with size := size, torn := 0, last := last }).length (fiCells (h.files.set i { f with size := size, torn := 0, last := last }))) := Lib.hid (by
      have h1 := fiCells_cut h.files i HIL.out size last
      rw [HFI.out HIL.out] at h1
      rw [← h1, List.length_set, HVF.out, ← HNF.out]
      exact t5)
    have HBX : Hid (W5.heap[g]? = _) := Lib.hid ((HON.out.block g (lt_of_heap HLA3.out.box) fun e => (HLA.out.ff g e).2 rfl).trans HLA3.out.box)
    have HW5 := Lib.hid hW5
    clear hrow t1 t2 t3 t4 t5 t6 hW5 hcell
    go_wp2_with fail
    rw [← HW5.out]
    go_ret
    unfold cutE
    rw [show D.cut d (sgName f.first) size = D.cut d (sgName ff) size by rw [HFF.out], ← HRR.out, if_pos rfl]
    exact ⟨rfl, Xd', HL3.out.setFiles HLA3.out HON.out HROW.out rfl (Only.refl _ _) HBX.out⟩
  · have q0 : (rr == 0) = false := beq_eq_false_iff_ne.2 hr
    have HR := Lib.hid hr
    clear hr
    go_wp2_with fail
    go_ret
    unfold cutE
    rw [show D.cut d (sgName f.first) size = D.cut d (sgName ff) size by rw [HFF.out], ← HRR.out, if_neg HR.out]
    exact ⟨rfl, Xd', HL3.out⟩
end Go.Proofs.YtbcpcopapbgcdaaGreatDoor.M

/- Part: SegCt2. -/
namespace Go.Proofs.YtbcpcopapbgcdaaGreatDoor.M
open Go.RowKit Go.Maps
open D (Fl Dk)

set_option maxRecDepth 20000 in
set_option maxHeartbeats 6400000 in
theorem cutFrom_cut (K : Nat → Obj → Prop) (w wa : World) (X Xd : Nat → Prop) (g gd : Nat) (least : Int) (h : Hd) (d : Dk) (l : LS K w X Xd g gd least h d wa) (ho : HdOk h) (ix : Int) (hix : h.mi < ix ∧ ix ≤ h.last.1) (hsq : h.Seq) (hP : Hid (Pow10 w)) (h1 : Hd) (d1 : Dk) (hst : stripE (fromIx ix) h.files h.files.length h d = (0, h1, d1))
    (hmi : h1.mi = h.mi) (hrl : h1.rows.length ≤ 1000000) (hfl : h1.files.length ≤ 1000000) (n' : Nat) (f : Fi) (hn' : h1.files.length = n' + 1) (hfl1 : h1.files[n']? = some f) (hlast : ix ≤ f.last) (hfb : 0 ≤ f.first ∧ f.first < 10000000000) (po : Int) (hpo : (h.rows[(ix - h.mi - 1).toNat]?).map (·.pos) = some po) (hpz : -9223372036854775808 ≤ po ∧ po ≤ 9223372036854775807) (h2 : Hd) (d2 : Dk) (hct : cutE h1 d1 n' f po (ix - 1) = (0, h2, d2)) (hrl2 : h2.rows.length ≤ 1000000) (hmi2 : h2.mi = h.mi) :
    Calls Tryz.prog 46 #[.pointer (some ⟨g, 0, none⟩), .int .i64 ix] wa fun e w' => e = .returned (.int .i64 0) ∧ ∃ Xd', LS K w X Xd' g gd least (forgetE h2 ix) d2 w' := by
  have hli := last_in ho
  obtain ⟨W1, hW1⟩ : ∃ W1, W1 = wa.alloc (.cells #[.int .i64 ix] 3) := ⟨_, rfl⟩
  obtain ⟨bi, hbi⟩ : ∃ b, b = wa.heap.size := ⟨_, rfl⟩
  have hb1 : Below wa.heap.size wa W1 := by rw [hW1]; exact below_alloc _ _
  have hx1 : W1.heap[bi]? = some (.cells #[.int .i64 ix] 3) := by rw [hW1, hbi]; exact heap_new _ _ _ rfl
  have hnX : ¬ X bi ∧ ¬ Xd bi := by rw [hbi]; exact ⟨fun hx => Nat.lt_irrefl _ (l.lt hx), fun hx => Nat.lt_irrefl _ (l.ds.lt _ hx)⟩
  have hl1 := l.next hb1
  have HL0 := Lib.hid l
  have HL1 := Lib.hid hl1
  have HKB : Hid (W1.heap[bi]? = some (.cells #[.int .i64 ix] 3) ∧ ¬ X bi ∧ ¬ Xd bi) := Lib.hid ⟨hx1, hnX⟩
  have HPL : Hid (∀ W2, Below W1.heap.size W1 W2 → Calls Tryz.prog 65 #[.pointer (some ⟨g, 0, none⟩), .int .i64 ix] W2 fun e w' => e = .returned (.tuple #[.int .i64 (ix - h.mi - 1), .bool true]) ∧ Below W1.heap.size W1 w') := Lib.hid fun W2 hb2 => by
    have := (hl1.next hb2).lg.place_any ho ix
    rw [if_neg (by omega)] at this
    exact this.mono fun e w' hp => ⟨hp.1, hb2.trans (hp.2.mono hb2.size)⟩
  have HST : Hid (∀ W2, Below W1.heap.size W1 W2 → Calls Tryz.prog 103 #[.pointer (some ⟨g, 0, none⟩), .func (.func 104) #[] #[.pointer (some ⟨bi, 0, none⟩)]] W2 fun e w' => e = .returned (.int .i64 0) ∧ LS (fun k o => W1.heap[k]? = some o ∧ ¬ X k ∧ ¬ Xd k) w X Xd g gd least h1 d1 w') := Lib.hid fun W2 hb2 => by
    have := strip_ok _ w W2 X Xd g gd least h d (hl1.keep.next hb2) (fromIx ix) 104 #[.pointer (some ⟨bi, 0, none⟩)] (enters_of Tryz.func104 (by kernel_rfl) rfl)
      (fun f hf W hk => cutFrom1_any f ix bi W (hk _ _ ⟨hx1, hnX⟩)) ho.rl ho.fl ho.m.1 (fun f hf => (ho.fb f hf).1) hP (by rw [hst])
    rw [hst] at this
    exact this
  have HFG : Hid (∀ W2 Xd2, LS (fun k o => W1.heap[k]? = some o ∧ ¬ X k ∧ ¬ Xd k) w X Xd2 g gd least h2 d2 W2 → Calls Tryz.prog 106 #[.pointer (some ⟨g, 0, none⟩), .int .i64 ix] W2 fun e w' => e = .returned (.tuple #[]) ∧ LS (fun k o => W1.heap[k]? = some o ∧ ¬ X k ∧ ¬ Xd k) w X Xd2 g gd least (forgetE h2 ix) d2 w') := Lib.hid fun W2 Xd2 hl2 =>
    (forget_any _ w W2 X Xd2 g gd least h2 d2 hl2 hrl2 (by rw [hmi2]; exact ho.m.1) ix (by have := ho.m.1; omega)).mono fun e w' hp => ⟨hp.1, hp.2.1⟩
  have HCT : Hid (∀ W2, LS (fun k o => W1.heap[k]? = some o ∧ ¬ X k ∧ ¬ Xd k) w X Xd g gd least h1 d1 W2 → Calls Tryz.prog 105 #[.pointer (some ⟨g, 0, none⟩), .int .i64 (n' : Int), .int .i64 po, .int .i64 (ix - 1)] W2 fun e w' => e = .returned (.int .i64 0) ∧ ∃ Xd2, LS (fun k o => W1.heap[k]? = some o ∧ ¬ X k ∧ ¬ Xd k) w X Xd2 g gd least h2 d2 w') := Lib.hid fun W2 hl2 => by
    have := segCut_any _ w W2 X Xd g gd least h1 d1 hl2 n' f hfl1 hfl hfb po (ix - 1) hpz hP
    rw [hct] at this
    exact this
  have HFL := Lib.hid hfl
  obtain ⟨⟨vr, vf, rv, la⟩, lz⟩ := hl1.lg
  have hrv : rv.length = h.rows.length := by rw [← List.length_map (f := (·.1)), la.rows]
  have hpl : ((ix - h.mi - 1).toNat : Nat) < rv.length := by
    rw [hrv]
    have := hsq.last
    omega
  obtain ⟨pi, hpi⟩ : ∃ pi, pi = (ix - h.mi - 1).toNat := ⟨_, rfl⟩
  rw [← hpi] at hpl
  have hpe : ix - h.mi - 1 = (pi : Int) := by omega
  rw [hpe] at HPL
  obtain ⟨ga, rc, hvr, hgz, -, -, hcs, -⟩ := row5_elem (f := rwV) (fun _ => rfl) la.rrow pi hpl
  subst hvr
  have s4 := hcs 4 (by omega)
  simp only [rwV, List.getElem?_cons_zero, List.getElem?_cons_succ] at s4
  obtain ⟨c0, c1, c2, c3, c4, c5, c6, cz⟩ := seven_cells la.box
  obtain ⟨b0, bf, bz⟩ := block1 hx1
  have hpo2 : rv[pi].1.pos = po := by
    rw [← hpi, ← la.rows, List.getElem?_map, List.getElem?_eq_getElem hpl] at hpo
    simpa using hpo
  rw [hpo2] at s4
  have HPZ := Lib.hid hpz
  have HIX : Hid (0 ≤ ix ∧ ix ≤ 10000000000) := Lib.hid (by have := ho.m.1; omega)
  have HN' := Lib.hid hn'
  have HF1 := Lib.hid hfl1
  have HLT := Lib.hid hlast
  obtain ⟨nr, hnr⟩ : ∃ nr, nr = rv.length := ⟨_, rfl⟩
  rw [← hnr] at c2 hpl
  have keep : ∀ {q o : Nat} {v : Value}, q < W1.heap.size → W1.cell? ⟨q, o, none⟩ = some v → ∀ w', Below W1.heap.size W1 w' → w'.cell? ⟨q, o, none⟩ = some v := fun {q o v} hq hv w' hb => (World.cell?_of_block (a := ⟨q, o, none⟩) (hb.block q hq)).trans hv
  have r0 := keep bz b0
  have r1 := keep cz c0
  have HR := Lib.hid (And.intro (keep cz c2) (keep hgz s4))
  have hGZ := And.intro cz hgz
  have HGZ := Lib.hid hGZ
  have q0 : decide (ix ≤ h.mi) = false := decide_eq_false (by omega)
  have hp1 : (pi : Int) < (nr : Int) := by omega
  have HW1 := Lib.hid hW1
  have HBI := Lib.hid hbi
  obtain ⟨mi, hmi'⟩ : ∃ mi, mi = h.mi := ⟨_, rfl⟩
  rw [← hmi'] at r1 q0
  have hS : Below W1.heap.size W1 W1.drew := (Below.refl _ _).drew
  clear l hl1 la lz hb1 hx1 hnX hW1 hbi hst hmi hrl hfl hrv hpi hpe hcs hfl1 hlast hfb hct hrl2 hmi2 hn' hpz hpo2 c1 c2 c3 c4 c5 c6 s4 hpo hnr keep hGZ hmi' hli hix hsq hP bf
  go_enter Tryz.func46, Tryz.ntmps46
  go_wp2_with fail
  rw [← HW1.out]
  rw [← HBI.out]
  refine wp_region_held (S := fun w' => Below W1.heap.size W1 w') (by kernel_rfl) ?_
  refine H_take (i := 0) (v := ?_) rfl (by as_aux_lemma => kernel_rfl) (by as_aux_lemma => kernel_rfl) (by as_aux_lemma => kernel_rfl) (fun _ _ _ h => h) (by rfl) hS ?_ ?_
  rotate_left
  · intro w' hw'; go_simp; with_reducible rfl
  go_simp
  refine H_take (i := 1) (v := ?_) rfl (by as_aux_lemma => kernel_rfl) (by as_aux_lemma => kernel_rfl) (by as_aux_lemma => kernel_rfl) (fun _ _ _ h => h) (by rfl) hS ?_ ?_
  rotate_left
  · intro w' hw'; go_simp; with_reducible rfl
  go_simp
  refine H_take (i := 2) (v := ?_) rfl (by as_aux_lemma => kernel_rfl) (by as_aux_lemma => kernel_rfl) (by as_aux_lemma => kernel_rfl) (fun _ _ _ h => h) (by rfl) hS ?_ ?_
  rotate_left
  · intro w' hw'; go_simp; with_reducible rfl
  go_simp
  refine H_take (i := 3) (v := ?_) rfl (by as_aux_lemma => kernel_rfl) (by as_aux_lemma => kernel_rfl) (by as_aux_lemma => kernel_rfl) (fun _ _ _ h => h) (by rfl) hS ?_ ?_
  rotate_left
  · intro w' hw'; go_simp; with_reducible rfl
  go_simp
  refine H_take (i := 4) (v := ?_) rfl (by as_aux_lemma => kernel_rfl) (by as_aux_lemma => kernel_rfl) (by as_aux_lemma => kernel_rfl) (fun _ _ _ h => h) (by rfl) hS ?_ ?_
  rotate_left
  · intro w' hw'; go_simp; with_reducible rfl
  go_simp
  refine H_take (i := 5) (v := ?_) rfl (by as_aux_lemma => kernel_rfl) (by as_aux_lemma => kernel_rfl) (by as_aux_lemma => kernel_rfl) (fun _ _ _ h => h) (by rfl) hS ?_ ?_
  rotate_left
  · intro w' hw'; go_simp; with_reducible rfl
  go_simp
  refine H_take (i := 6) (v := ?_) rfl (by as_aux_lemma => kernel_rfl) (by as_aux_lemma => kernel_rfl) (by as_aux_lemma => kernel_rfl) (fun _ _ _ h => h) (by rfl) hS ?_ ?_
  rotate_left
  · intro w' hw'; go_simp; with_reducible rfl
  go_simp
  refine H_take (i := 7) (v := ?_) rfl (by as_aux_lemma => kernel_rfl) (by as_aux_lemma => kernel_rfl) (by as_aux_lemma => kernel_rfl) (fun _ _ _ h => h) (by rfl) hS ?_ ?_
  rotate_left
  · intro w' hw'; go_simp; with_reducible rfl
  go_simp
  refine wpAnyH_done (by as_aux_lemma => kernel_rfl) ?_ _
  clear hS
  go_wp2_with fail
  have hS : Below W1.heap.size W1 W1.drew.drew := (Below.refl _ _).drew.drew
  refine wp_region_held (S := fun w' => Below W1.heap.size W1 w') (by kernel_rfl) ?_
  refine H_take (i := 0) (v := ?_) rfl (by as_aux_lemma => kernel_rfl) (by as_aux_lemma => kernel_rfl) (by as_aux_lemma => kernel_rfl) (fun _ _ _ h => h) (by rfl) hS ?_ ?_
  rotate_left
  · intro w' hw'; go_simp; with_reducible rfl
  go_simp
  refine H_take (i := 1) (v := ?_) rfl (by as_aux_lemma => kernel_rfl) (by as_aux_lemma => kernel_rfl) (by as_aux_lemma => kernel_rfl) (fun _ _ _ h => h) (by rfl) hS ?_ ?_
  rotate_left
  · intro w' hw'; go_simp; with_reducible rfl
  go_simp
  refine H_take (i := 2) (v := ?_) rfl (by as_aux_lemma => kernel_rfl) (by as_aux_lemma => kernel_rfl) (by as_aux_lemma => kernel_rfl) (fun _ _ _ h => h) (by rfl) hS ?_ ?_
  rotate_left
  · intro w' hw'; go_simp; with_reducible rfl
  go_simp
  refine H_take (i := 3) (v := ?_) rfl (by as_aux_lemma => kernel_rfl) (by as_aux_lemma => kernel_rfl) (by as_aux_lemma => kernel_rfl) (fun _ _ _ h => h) (by rfl) hS ?_ ?_
  rotate_left
  · intro w' hw'; go_simp; with_reducible rfl
  go_simp
  refine H_one (i := 4) (by as_aux_lemma => kernel_rfl) rfl (by rfl) ?_
  go_simp
  refine (HPL.out W1.drew.drew hS).mono ?_
  rintro e w2 ⟨rfl, hS2⟩
  refine ⟨hS2, ?_⟩
  go_simp
  refine H_take (i := 5) (v := ?_) rfl (by as_aux_lemma => kernel_rfl) (by as_aux_lemma => kernel_rfl) (by as_aux_lemma => kernel_rfl) (fun _ _ _ h => h) (by rfl) hS2 ?_ ?_
  rotate_left
  · intro w' hw'; go_simp; with_reducible rfl
  go_simp
  refine H_take (i := 6) (v := ?_) rfl (by as_aux_lemma => kernel_rfl) (by as_aux_lemma => kernel_rfl) (by as_aux_lemma => kernel_rfl) (fun _ _ _ h => h) (by rfl) hS2 ?_ ?_
  rotate_left
  · intro w' hw'; go_simp; with_reducible rfl
  go_simp
  refine H_take (i := 7) (v := ?_) rfl (by as_aux_lemma => kernel_rfl) (by as_aux_lemma => kernel_rfl) (by as_aux_lemma => kernel_rfl) (fun _ _ _ h => h) (by rfl) hS2 ?_ ?_
  rotate_left
  · intro w' hw'; go_simp; with_reducible rfl
  go_simp
  refine H_take (i := 8) (v := ?_) rfl (by as_aux_lemma => kernel_rfl) (by as_aux_lemma => kernel_rfl) (by as_aux_lemma => kernel_rfl) (fun _ _ _ h => h) (by rfl) hS2 ?_ ?_
  rotate_left
  · intro w' hw'; go_simp; with_reducible rfl
  go_simp
  refine H_take (i := 9) (v := ?_) rfl (by as_aux_lemma => kernel_rfl) (by as_aux_lemma => kernel_rfl) (by as_aux_lemma => kernel_rfl) (fun _ _ _ h => h) (by rfl) hS2 ?_ ?_
  rotate_left
  · intro w' hw'; go_simp; with_reducible rfl
  go_simp
  refine wpAnyH_done (by as_aux_lemma => kernel_rfl) ?_ _
  have c2 := HR.out.1 w2 hS2
  have s4 := HR.out.2 w2 hS2
  have cz := Nat.lt_of_lt_of_le HGZ.out.1 hS2.size
  have sz := Nat.lt_of_lt_of_le HGZ.out.2 hS2.size
  have HS2 := Lib.hid hS2
  clear r0 r1 hS hS2
  go_wp2_with fail
  refine (HST.out w2 HS2.out).mono ?_
  rintro e w4 ⟨rfl, hl4⟩
  have HL4 := Lib.hid hl4
  have HBI4 := Lib.hid (hl4.kp bi _ HKB.out).1
  obtain ⟨⟨vr4, vf4, rv4, la4⟩, lz4⟩ := hl4.lg
  clear c0 b0 bz c2 s4 cz sz hp1 q0 hl4 lz4 hpl hgz
  obtain ⟨b0, bf, bz⟩ := block1 HBI4.out
  clear bf
  have hn' := HN'.out
  obtain ⟨ga4, fc, hvf, hgz4, -, -, hcs4, -⟩ := row5_elem (f := fiV) (fun _ => rfl) la4.frow n' (by omega)
  subst hvf
  have s1 := hcs4 1 (by omega)
  have hff : h1.files[n']'(by omega) = f := by have h := HF1.out; rw [List.getElem?_eq_getElem (by omega)] at h; exact Option.some.inj h
  rw [hff] at s1
  simp only [fiV, List.getElem?_cons_zero, List.getElem?_cons_succ] at s1
  obtain ⟨fl, hfl⟩ : ∃ fl, fl = f.last := ⟨_, rfl⟩
  have hlast := HLT.out
  rw [← hfl] at hlast s1
  obtain ⟨-, -, -, c3, -, -, -, cz⟩ := seven_cells la4.box
  obtain ⟨nf, hnf⟩ : ∃ nf, nf = h1.files.length := ⟨_, rfl⟩
  rw [← hnf] at c3
  have hx : (nf : Int) - 1 = (n' : Int) := by omega
  have hx2 : (n' : Int) < (nf : Int) := by omega
  have hx3 : decide ((0 : Int) < (nf : Int)) = true := decide_eq_true (by omega)
  have hx5 : decide (0 < nf) = true := decide_eq_true (by omega)
  have hx6 : 0 < nf := by omega
  have hx4 : (nf : Int) ≤ 1000000 := by have := HFL.out; omega
  have hx7 : IntKind.i64.wrap (n' : Int) = (n' : Int) := IntWalk.i64_in _ (by omega)
  have q1 : decide (ix ≤ fl) = true := decide_eq_true (by omega)
  have keep : ∀ {q o : Nat} {v : Value}, q < w4.heap.size → w4.cell? ⟨q, o, none⟩ = some v → ∀ w', Below w4.heap.size w4 w' → w'.cell? ⟨q, o, none⟩ = some v := fun {q o v} hq hv w' hb => (World.cell?_of_block (a := ⟨q, o, none⟩) (hb.block q hq)).trans hv
  have r0 := keep bz b0
  have r2 := keep cz c3
  have r3 := keep hgz4 s1
  have hS : Below w4.heap.size w4 w4.drew := (Below.refl _ _).drew
  clear la4 hn' hcs4 hff hfl hnf keep s1 hlast b0
  go_wp2_with fail
  clear c3 cz bz hgz4
  refine wp_region_held (S := fun w' => Below w4.heap.size w4 w') (by kernel_rfl) ?_
  refine H_take (i := 0) (v := ?_) rfl (by as_aux_lemma => kernel_rfl) (by as_aux_lemma => kernel_rfl) (by as_aux_lemma => kernel_rfl) (fun _ _ _ h => h) (by rfl) hS ?_ ?_
  rotate_left
  · intro w' hw'; go_simp; with_reducible rfl
  go_simp
  refine H_take (i := 1) (v := ?_) rfl (by as_aux_lemma => kernel_rfl) (by as_aux_lemma => kernel_rfl) (by as_aux_lemma => kernel_rfl) (fun _ _ _ h => h) (by rfl) hS ?_ ?_
  rotate_left
  · intro w' hw'; go_simp; with_reducible rfl
  go_simp
  refine H_take (i := 2) (v := ?_) rfl (by as_aux_lemma => kernel_rfl) (by as_aux_lemma => kernel_rfl) (by as_aux_lemma => kernel_rfl) (fun _ _ _ h => h) (by rfl) hS ?_ ?_
  rotate_left
  · intro w' hw'; go_simp; with_reducible rfl
  go_simp
  refine H_take (i := 3) (v := ?_) rfl (by as_aux_lemma => kernel_rfl) (by as_aux_lemma => kernel_rfl) (by as_aux_lemma => kernel_rfl) (fun _ _ _ h => h) (by rfl) hS ?_ ?_
  rotate_left
  · intro w' hw'; go_simp; with_reducible rfl
  go_simp
  refine H_take (i := 4) (v := ?_) rfl (by as_aux_lemma => kernel_rfl) (by as_aux_lemma => kernel_rfl) (by as_aux_lemma => kernel_rfl) (fun _ _ _ h => h) (by rfl) hS ?_ ?_
  rotate_left
  · intro w' hw'; go_simp; with_reducible rfl
  go_simp
  refine H_take (i := 5) (v := ?_) rfl (by as_aux_lemma => kernel_rfl) (by as_aux_lemma => kernel_rfl) (by as_aux_lemma => kernel_rfl) (fun _ _ _ h => h) (by rfl) hS ?_ ?_
  rotate_left
  · intro w' hw'; go_simp; with_reducible rfl
  go_simp
  refine H_take (i := 6) (v := ?_) rfl (by as_aux_lemma => kernel_rfl) (by as_aux_lemma => kernel_rfl) (by as_aux_lemma => kernel_rfl) (fun _ _ _ h => h) (by rfl) hS ?_ ?_
  rotate_left
  · intro w' hw'; go_simp; with_reducible rfl
  go_simp
  refine H_take (i := 7) (v := ?_) rfl (by as_aux_lemma => kernel_rfl) (by as_aux_lemma => kernel_rfl) (by as_aux_lemma => kernel_rfl) (fun _ _ _ h => h) (by rfl) hS ?_ ?_
  rotate_left
  · intro w' hw'; go_simp; with_reducible rfl
  go_simp
  refine H_take (i := 8) (v := ?_) rfl (by as_aux_lemma => kernel_rfl) (by as_aux_lemma => kernel_rfl) (by as_aux_lemma => kernel_rfl) (fun _ _ _ h => h) (by rfl) hS ?_ ?_
  rotate_left
  · intro w' hw'; go_simp; with_reducible rfl
  go_simp
  refine H_take (i := 9) (v := ?_) rfl (by as_aux_lemma => kernel_rfl) (by as_aux_lemma => kernel_rfl) (by as_aux_lemma => kernel_rfl) (fun _ _ _ h => h) (by rfl) hS ?_ ?_
  rotate_left
  · intro w' hw'; go_simp; with_reducible rfl
  go_simp
  refine H_take (i := 10) (v := ?_) rfl (by as_aux_lemma => kernel_rfl) (by as_aux_lemma => kernel_rfl) (by as_aux_lemma => kernel_rfl) (fun _ _ _ h => h) (by rfl) hS ?_ ?_
  rotate_left
  · intro w' hw'; go_simp; with_reducible rfl
  go_simp
  refine H_take (i := 11) (v := ?_) rfl (by as_aux_lemma => kernel_rfl) (by as_aux_lemma => kernel_rfl) (by as_aux_lemma => kernel_rfl) (fun _ _ _ h => h) (by rfl) hS ?_ ?_
  rotate_left
  · intro w' hw'; go_simp; with_reducible rfl
  go_simp
  refine H_take (i := 12) (v := ?_) rfl (by as_aux_lemma => kernel_rfl) (by as_aux_lemma => kernel_rfl) (by as_aux_lemma => kernel_rfl) (fun _ _ _ h => h) (by rfl) hS ?_ ?_
  rotate_left
  · intro w' hw'; go_simp; with_reducible rfl
  go_simp
  refine H_take (i := 13) (v := ?_) rfl (by as_aux_lemma => kernel_rfl) (by as_aux_lemma => kernel_rfl) (by as_aux_lemma => kernel_rfl) (fun _ _ _ h => h) (by rfl) hS ?_ ?_
  rotate_left
  · intro w' hw'; go_simp; with_reducible rfl
  go_simp
  refine H_take (i := 14) (v := ?_) rfl (by as_aux_lemma => kernel_rfl) (by as_aux_lemma => kernel_rfl) (by as_aux_lemma => kernel_rfl) (fun _ _ _ h => h) (by rfl) hS ?_ ?_
  rotate_left
  · intro w' hw'; go_simp; with_reducible rfl
  go_simp
  refine H_take (i := 15) (v := ?_) rfl (by as_aux_lemma => kernel_rfl) (by as_aux_lemma => kernel_rfl) (by as_aux_lemma => kernel_rfl) (fun _ _ _ h => h) (by rfl) hS ?_ ?_
  rotate_left
  · intro w' hw'; go_simp; with_reducible rfl
  go_simp
  refine wpAnyH_done (by as_aux_lemma => kernel_rfl) ?_ _
  clear r0 r2 r3 hS
  have b0 : w4.drew.cell? ⟨bi, 0, none⟩ = some (.int .i64 ix) := cell_of_row _ _ 0 _ _ _ HBI4.out
  have bz : bi < w4.drew.heap.size := lt_of_heap HBI4.out
  obtain ⟨hi1, hi2⟩ := HIX.out
  go_wp2_with fail
  refine (HCT.out w4.drew (HL4.out.next (Below.refl _ w4).drew)).mono ?_
  rintro e w6 ⟨rfl, Xd2, hl6⟩
  have HL6 := Lib.hid hl6
  have HBI6 := Lib.hid (hl6.kp bi _ HKB.out).1
  clear hl6 b0 bz hi1 hi2
  go_wp2_with fail
  have r1 : ∀ w' : World, w'.heap[bi]? = some (.cells #[.int .i64 ix] 3) → w'.cell? ⟨bi, 0, none⟩ = some (.int .i64 ix) := fun w' h => cell_of_row _ _ 0 _ _ _ h
  have hS : w6.drew.heap[bi]? = some (.cells #[.int .i64 ix] 3) := HBI6.out
  refine wp_region_held (S := fun w' : World => w'.heap[bi]? = some (.cells #[.int .i64 ix] 3)) (by kernel_rfl) ?_
  refine H_take (i := 0) (v := ?_) rfl (by as_aux_lemma => kernel_rfl) (by as_aux_lemma => kernel_rfl) (by as_aux_lemma => kernel_rfl) (fun _ _ _ h => h) (by rfl) hS ?_ ?_
  rotate_left
  · intro w' hw'; go_simp; with_reducible rfl
  go_simp
  refine H_take (i := 1) (v := ?_) rfl (by as_aux_lemma => kernel_rfl) (by as_aux_lemma => kernel_rfl) (by as_aux_lemma => kernel_rfl) (fun _ _ _ h => h) (by rfl) hS ?_ ?_
  rotate_left
  · intro w' hw'; go_simp; with_reducible rfl
  go_simp
  refine H_take (i := 2) (v := ?_) rfl (by as_aux_lemma => kernel_rfl) (by as_aux_lemma => kernel_rfl) (by as_aux_lemma => kernel_rfl) (fun _ _ _ h => h) (by rfl) hS ?_ ?_
  rotate_left
  · intro w' hw'; go_simp; with_reducible rfl
  go_simp
  refine H_take (i := 3) (v := ?_) rfl (by as_aux_lemma => kernel_rfl) (by as_aux_lemma => kernel_rfl) (by as_aux_lemma => kernel_rfl) (fun _ _ _ h => h) (by rfl) hS ?_ ?_
  rotate_left
  · intro w' hw'; go_simp; with_reducible rfl
  go_simp
  refine H_one (i := 4) (by as_aux_lemma => kernel_rfl) rfl (by rfl) ?_
  go_simp
  refine (HFG.out w6.drew Xd2 (HL6.out.next (Below.refl _ w6).drew)).mono ?_
  rintro e w5 ⟨rfl, hl5⟩
  have HL5 := Lib.hid (HL1.out.stay hl5)
  have hS5 := (hl5.kp bi _ HKB.out).1
  refine ⟨hS5, ?_⟩
  clear hl5
  go_simp
  refine wpAnyH_done (by as_aux_lemma => kernel_rfl) ?_ _
  clear r1 hS hS5
  go_wp2_with fail
  go_ret
  exact ⟨rfl, Xd2, HL5.out⟩
end Go.Proofs.YtbcpcopapbgcdaaGreatDoor.M

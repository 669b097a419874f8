/- Package segment: strip. Package segment: mend, where no segment goes and none is torn. Package segment: a log opened over a disk without files. Package segment: From. Package segment: entryOf of a whole row. Package segment: what a scan holds in memory. Package segment: take, over whole rows. Segments as groups of entries. Plain. Package segment: CutFrom, where nothing is left to be cut. Package segment: cut. -/
import Derived.Test.YtamgjlegcegmeaaGreatDoorSD37
import Derived.Test.YtamgjlegcegmeaaGreatDoorSD38
import Derived.BigRegion
import Derived.Stop.RegionWithIn
import Derived.Test.YtamgjlegcegmeaaGreatDoorSD34
import Derived.Deep.QuietTactic
import Derived.Test.YtamgjlegcegmeaaGreatDoorSD33
import Derived.Test.YtamgjlegcegmeaaGreatDoorSD12
/- Part: SegStr. -/
namespace Go.Proofs.YtamgjlegcegmeaaGreatDoor.M
open Go.RowKit Go.Shelf Go.Maps
open D (Fl Dk)

attribute [local go_sem] Oper.semAt_some

/-- The segments that go, from the last one to the first. -/
def stripE (goes : Fi → Bool) (fs : List Fi) : Nat → Hd → Dk → Int × Hd × Dk
  | 0, h, d => (0, h, d)
  | i + 1, h, d => match fs[i]? with
    | none => (0, h, d)
    | some f => if goes f = false then stripE goes fs i h d else
      if (removedE h d i f).1 ≠ 0 then removedE h d i f else
        stripE goes fs i (if f.has then forgetE (removedE h d i f).2.1 f.first else (removedE h d i f).2.1) (removedE h d i f).2.2

theorem DS.only5 {w wr w' : World} {X Y : Nat → Prop} {gd : Nat} {d : Dk} (h : DS w X gd d wr) (ho : Only Y wr w') (hY : ∀ k, Y k → w.heap.size ≤ k) (hd : ∀ k, Y k → ¬ X k) : DS w X gd d w' :=
  ⟨⟨ho.os.trans h.below.os, ho.tape.trans h.below.tape, ho.output.trans h.below.output, Nat.le_trans h.below.size ho.size, fun k hk => by
    rw [ho.block k (Nat.lt_of_lt_of_le hk h.below.size) fun hx => by have := hY k hx; omega]
    exact h.below.block k hk⟩, h.own, ⟨h.dsk.1.same (fun _ h => h) fun k hk => ho.block k (h.lt k hk) fun hx => hd k hx hk, fun k hk => Nat.lt_of_lt_of_le (h.lt k hk) ho.size⟩, h.well⟩

theorem LS.other {K : Nat → Obj → Prop} {w wr w' : World} {X Xd Z : Nat → Prop} {g gd : Nat} {least : Int} {h : Hd} {d : Dk} (l : LS K w X Xd g gd least h d wr) (ho : Only Z wr w') (h1 : ∀ k, Z k → w.heap.size ≤ k ∧ ¬ X k ∧ ¬ Xd k) (h2 : ∀ k o, Z k → ¬ K k o) : LS K w X Xd g gd least h d w' :=
  ⟨l.ds.only5 ho (fun k hk => (h1 k hk).1) fun k hk => (h1 k hk).2.2, l.lg.only ho fun k hk hz => (h1 k hz).2.1 hk, l.own, l.dis, fun k o hk => by
    obtain ⟨k1, k2, k3⟩ := l.kp k o hk
    exact ⟨(ho.block k (lt_of_heap k1) fun hz => h2 k o hz hk).trans k1, k2, k3⟩⟩

theorem only_row {w w' : World} {row : Option Nat} (h : w.grownBy w' row) : Only (fun k => row = some k) w w' := ⟨h.os, h.tape, h.output, h.size, fun k hk hn => h.block k hk fun e => hn e.symm⟩

/-- What holds when k rounds are over. -/
structure StAt (K : Nat → Obj → Prop) (w : World) (X Xd : Nat → Prop) (g gd : Nat) (least : Int) (goes : Fi → Bool) (fs : List Fi) (R : Int × Hd × Dk) (mi : Int) (fa : Option Addr) (k : Nat) (W : World) : Prop where
  ex : ∃ h' d', R = stripE goes fs (fs.length - k) h' d' ∧ LS K w X Xd g gd least h' d' W ∧ (∀ j, j < fs.length - k → h'.files[j]? = fs[j]?) ∧ h'.rows.length ≤ 1000000 ∧ h'.files.length ≤ 1000000 ∧ h'.mi = mi
  fb : ∀ b, fa = some ⟨b, 0, none⟩ → ∃ n' c', W.cell? ⟨g, 3, none⟩ = some (.slice (some ⟨b, 0, none⟩) n' c')

theorem StAt.next {K : Nat → Obj → Prop} {w : World} {X Xd : Nat → Prop} {g gd : Nat} {least : Int} {goes : Fi → Bool} {fs : List Fi} {R : Int × Hd × Dk} {mi : Int} {fa : Option Addr} {k : Nat} {W W' : World} (h : StAt K w X Xd g gd least goes fs R mi fa k W) (hb : Below W.heap.size W W') : StAt K w X Xd g gd least goes fs R mi fa k W' := by
  obtain ⟨⟨h', d', e1, e2, e3⟩, e7⟩ := h
  refine ⟨⟨h', d', e1, e2.next hb, e3⟩, fun b hb2 => ?_⟩
  obtain ⟨n', c', h3⟩ := e7 b hb2
  exact ⟨n', c', (World.cell?_of_block (a := ⟨g, 3, none⟩) (hb.block g (lt_of_cell h3).1)).trans h3⟩

theorem cell_put5 {W : World} {D : Nat} {a : Addr} {v : Value} (h : W.cell? a = some v) (hK : W.heap[D]? = some (.deferred (some []))) : (W.putObj D (.deferred none)).cell? a = some v :=
  cell_kept h (grownBy_putObj' _ D (.deferred none)) fun r e => (by cases e; exact ⟨_, hK, rfl⟩)

theorem keeps_below5 {B : Nat} {W W' : World} (h : Below W.heap.size W W') : KeepsFrom B W W' := KeepsFrom.of_grownBy (grown_of_below h) fun j e => by cases e

theorem keeps_only5 {B : Nat} {W W' : World} {Z : Nat → Prop} (h : Only Z W W') (hZ : ∀ k, Z k → k < B) : KeepsFrom B W W' :=
  ⟨h.size, fun k o hk ho _ => (h.block k (lt_of_heap ho) fun hz => by have := hZ k hz; omega).trans ho⟩

set_option maxRecDepth 100000 in
set_option maxHeartbeats 4000000 in
theorem strip_ok (K : Nat → Obj → Prop) (w wa : World) (X Xd : Nat → Prop) (g gd : Nat) (least : Int) (h : Hd) (d : Dk) (l : LS K w X Xd g gd least h d wa) (goes : Fi → Bool) (gc : Nat) (caps : Array Value) (hgc : ∀ args w, (callFunc gc args).run Tryz.prog w = .ok (.enter gc args) w)
    (hgoes : ∀ f ∈ h.files, ∀ W, (∀ k o, K k o → W.heap[k]? = some o) → Calls Tryz.prog gc (#[fiAgg f] ++ caps) W fun e W' => e = .returned (.bool (goes f)) ∧ Below W.heap.size W W')
    (hrl : h.rows.length ≤ 1000000) (hfl : h.files.length ≤ 1000000) (hm : 0 ≤ h.mi ∧ h.mi < 10000000000) (hfb : ∀ f ∈ h.files, 0 ≤ f.first ∧ f.first < 10000000000) (hP : Hid (Pow10 w)) (hr : (stripE goes h.files h.files.length h d).1 = 0) :
    Calls Tryz.prog 38 #[.pointer (some ⟨g, 0, none⟩), .func (.func gc) #[] caps] wa fun e w' => e = .returned (.int .i64 0) ∧ LS K w X Xd g gd least (stripE goes h.files h.files.length h d).2.1 (stripE goes h.files h.files.length h d).2.2 w' := by
  obtain ⟨W3, hW3⟩ : ∃ W3, W3 = ((wa.alloc (.cells #[.pointer (some ⟨g, 0, none⟩)] 28)).alloc (.cells #[.func (.func gc) #[] caps] 65)).alloc (.cells #[.int .i64 0] 25) := ⟨_, rfl⟩
  have hb3 : Below wa.heap.size wa W3 := by rw [hW3]; exact (((Below.refl _ wa).alloc (Nat.le_refl _) _).alloc (by simp) _).alloc (by simp; omega) _
  have hx0 : W3.heap[wa.heap.size]? = some (.cells #[.pointer (some ⟨g, 0, none⟩)] 28) := by rw [hW3]; exact old_alloc (old_alloc (heap_new _ _ _ rfl))
  have hx1 : W3.heap[wa.heap.size + 1]? = some (.cells #[.func (.func gc) #[] caps] 65) := by rw [hW3]; exact old_alloc (heap_new _ _ _ (by simp))
  have hx2 : W3.heap[wa.heap.size + 2]? = some (.cells #[.int .i64 0] 25) := by rw [hW3]; exact heap_new _ _ _ (by simp)
  have HL3 := Lib.hid (l.next hb3)
  have HL := Lib.hid l
  have HX0 := Lib.hid hx0
  have HX1 := Lib.hid hx1
  have HX2 := Lib.hid hx2
  have HB3 := Lib.hid hb3
  have HGO := Lib.hid hgoes
  have HR := Lib.hid hr
  have HFB := Lib.hid hfb
  have HM := Lib.hid hm
  have HRL := Lib.hid hrl
  have HFL := Lib.hid hfl
  have HW3 := Lib.hid hW3
  obtain ⟨⟨vr, vf, rv, la⟩, lz⟩ := HL3.out.lg
  obtain ⟨fa, fc, rfl, -, -⟩ := row5_slice la.frow
  obtain ⟨c0, c1, c2, c3, c4, c5, c6, cz⟩ := seven_cells la.box
  have HLA := Lib.hid la
  obtain ⟨nf, hnf⟩ : ∃ nf, nf = h.files.length := ⟨_, rfl⟩
  rw [← hnf] at c3
  have HNF := Lib.hid hnf
  rw [hW3] at c3
  have c3' := (HL.out.lg.1)
  clear l la lz c0 c1 c2 c4 c5 c6 hx0 hx1 hx2 hb3 hW3 hgoes hr hfb hm hrl hfl hnf c3'
  refine (callsIn_wide (n := 3)).1 ?_
  refine callsIn_of_wp_marks Tryz.func38 rfl trivial ?_ rfl
  simp only [Tryz.ntmps38, List.size_toArray, List.length_cons, List.length_nil, Nat.reduceAdd, Nat.reduceSub, Array.replicate_succ, Array.replicate_zero, List.push_toArray, List.append_toArray, List.nil_append, List.cons_append]
  gi_wp2_with (refine ⟨trivial, ?_⟩; gi_at_call 67; rw [← HW3.out]; refine (callsIn_wide.2 (backFi_any _ _ _ _)).mono ?_; rintro e w4 ⟨rfl, rfl⟩)
  obtain ⟨W4, hW4⟩ : ∃ W4, W4 = W3.alloc (.cells #[.slice fa nf fc] 58) := ⟨_, rfl⟩
  rw [← hW4]
  have hb4 : Below W3.heap.size W3 W4 := by rw [hW4]; exact below_alloc _ _
  have hz4 : W4.heap.size = W3.heap.size + 1 := by rw [hW4]; simp
  have hx3 : W4.heap[W3.heap.size]? = some (.cells #[.slice fa nf fc] 58) := by rw [hW4]; exact heap_new _ _ _ rfl
  have HL4 := Lib.hid (HL3.out.next hb4)
  have hz3 : wa.heap.size + 3 = W3.heap.size := by rw [HW3.out]; simp
  have hXl : ∀ k, X k → k < wa.heap.size := fun k hk => HL.out.lt hk
  have hDl : ∀ k, Xd k → k < wa.heap.size := HL.out.ds.lt
  have y0 := old_below HX0.out hb4
  have y1 := old_below HX1.out hb4
  have y2 := old_below HX2.out hb4
  have HY : Hid (∀ (W : World) (h' : Hd) (d' : Dk), LS (fun k o => W4.heap[k]? = some o ∧ ¬ X k ∧ ¬ Xd k) w X Xd g gd least h' d' W → W.heap[wa.heap.size]? = some (.cells #[.pointer (some ⟨g, 0, none⟩)] 28) ∧ W.heap[wa.heap.size + 1]? = some (.cells #[.func (.func gc) #[] caps] 65) ∧ W.heap[wa.heap.size + 2]? = some (.cells #[.int .i64 0] 25) ∧ W.heap[W3.heap.size]? = some (.cells #[.slice fa nf fc] 58) ∧ W4.heap.size ≤ W.heap.size) := Lib.hid fun W h' d' hl => by
    have hn : ∀ k, wa.heap.size ≤ k → ¬ X k ∧ ¬ Xd k := fun k hk => ⟨fun hx => by have := hXl k hx; omega, fun hx => by have := hDl k hx; omega⟩
    refine ⟨(hl.kp _ _ ⟨y0, hn _ (by omega)⟩).1, (hl.kp _ _ ⟨y1, hn _ (by omega)⟩).1, (hl.kp _ _ ⟨y2, hn _ (by omega)⟩).1, (hl.kp _ _ ⟨hx3, hn _ (by omega)⟩).1, ?_⟩
    have := lt_of_heap (hl.kp _ _ ⟨hx3, hn _ (by omega)⟩).1
    omega
  obtain ⟨RR, hRR⟩ : ∃ RR, RR = stripE goes h.files h.files.length h d := ⟨_, rfl⟩
  rw [← hRR] at HR
  have HRR := Lib.hid hRR
  have HXl := Lib.hid hXl
  have HDl := Lib.hid hDl
  have HZ : Hid (wa.heap.size + 4 = W4.heap.size) := Lib.hid (by omega)
  have HKK : Hid (∀ (W : World) (h' : Hd) (d' : Dk), LS (fun k o => W4.heap[k]? = some o ∧ ¬ X k ∧ ¬ Xd k) w X Xd g gd least h' d' W → ∀ k o, K k o → W.heap[k]? = some o) := Lib.hid fun W h' d' hl k o hk => (hl.kp k o (HL4.out.kp k o hk)).1
  have hI0 : StAt (fun k o => W4.heap[k]? = some o ∧ ¬ X k ∧ ¬ Xd k) w X Xd g gd least goes h.files RR h.mi fa 0 W4 := ⟨⟨h, d, hRR, HL4.out.keep, fun _ _ => rfl, HRL.out, HFL.out, rfl⟩, fun b hb => by
    have h3 := cell_of_row _ _ 3 _ _ _ (HLA.out.same (fun _ h => h) fun k hk => hb4.block k (HL3.out.lt hk)).box
    rw [hb] at h3
    exact ⟨_, _, h3⟩⟩
  have hfaj : ∀ j, j < h.files.length → ∃ b, fa = some ⟨b, 0, none⟩ := fun j hj => by
    obtain ⟨ga, c, hv, -⟩ := row5_elem (f := fiV) (fun _ => rfl) HLA.out.frow j hj
    cases hv
    exact ⟨ga, rfl⟩
  have HB4 := Lib.hid hb4
  clear hW4 hb4 hx3 hXl hDl y0 y1 y2 hRR hz3
  refine wpIn_rangeFunc_by (F := Fence.wide) (n := 3) rfl (by omega) (gf := 99) (lb := #[.pointer (some ⟨W3.heap.size, 0, none⟩)]) rfl trivial (enters_of Tryz.func99 (by kernel_rfl) rfl)
    h.files.length (bkEnc h.files) (fun _ => rfl) (FilesAt W3.heap.size fa fc h.files)
    (fun l J Jx W hJ hY h0 => backFi_in Fence.wide 2 trivial rfl (by omega) l W3.heap.size fa fc h.files HFL.out J Jx hJ hY W h0)
    (StAt (fun k o => W4.heap[k]? = some o ∧ ¬ X k ∧ ¬ Xd k) w X Xd g gd least goes h.files RR h.mi fa) (fun _ _ _ => False)
    ?own (fun _ _ _ _ _ h => h.elim) ?reads hI0
    (fun k a' W => ∃ B6, W4.heap.size ≤ B6 ∧ W.heap[B6]? = some (.cells #[.int .i64 (bkFi h.files k).first, .int .i64 (bkFi h.files k).last, .int .i64 (bkFi h.files k).size, .int .i64 (bkFi h.files k).torn, .bool (bkFi h.files k).loose] 75) ∧
      a' = { tmps := #[.pointer (some ⟨g, 0, none⟩), .func (.func gc) #[] caps, .pointer (some ⟨wa.heap.size, 0, none⟩), .pointer (some ⟨wa.heap.size + 1, 0, none⟩), .pointer (some ⟨wa.heap.size + 1 + 1, 0, none⟩), .int .i64 ((h.files.length - 1 - k : Nat) : Int), .pointer (some ⟨B6, 0, none⟩), undef, .pointer (some ⟨g, 0, none⟩), .pointer (some ⟨g, 0, none⟩), .pointer (some ⟨g, 0, none⟩), .pointer (some ⟨g, 3, none⟩), .slice fa nf fc, .func (.func 99) #[] #[.pointer (some ⟨W3.heap.size, 0, none⟩)], .int .i64 ((h.files.length - 1 - k : Nat) : Int), fiAgg (bkFi h.files k), undef, undef, undef, undef, undef, undef, undef, undef, undef, undef, undef, undef, undef, undef, undef, undef, undef, undef], defers := [] })
    ?ownA ?assign ?body ?done (fun _ _ _ _ _ h => h.elim)
  case own =>
    rintro k W W' row ⟨⟨h', d', e1, e2, e3, e4, e5, e6⟩, e7⟩ hg hrow
    have hz := HZ.out
    refine ⟨⟨h', d', e1, e2.other (only_row hg) (fun q hq => ?_) (fun q o hq hk => ?_), e3, e4, e5, e6⟩, fun b hb => ?_⟩
    · have h1 := (hrow q hq).1
      exact ⟨by have := HL4.out.below.size; omega, fun hx => by have := HXl.out q hx; omega, fun hx => by have := HDl.out q hx; omega⟩
    · have h1 := (hrow q hq).1
      have h2 := lt_of_heap hk.1
      omega
    · obtain ⟨n', c', h3⟩ := e7 b hb
      exact ⟨n', c', cell_kept h3 hg fun r hr => (hrow r hr).2⟩
  case reads =>
    rintro k W hk ⟨⟨h', d', e1, e2, e3, e4, e5, e6⟩, e7⟩
    obtain ⟨-, -, -, y3, -⟩ := HY.out W h' d' e2
    refine ⟨by rw [← HNF.out]; exact cell_of_row _ _ 0 _ _ _ y3, fun j hj hjk => ?_⟩
    obtain ⟨b, hb⟩ := hfaj j hj
    obtain ⟨n', c', h3⟩ := e7 b hb
    obtain ⟨⟨vr', vf', rv', la'⟩, -⟩ := e2.lg
    have h4 := e3 j (by omega)
    rw [List.getElem?_eq_getElem hj] at h4
    obtain ⟨h5, h6⟩ := List.getElem?_eq_some_iff.1 h4
    obtain ⟨ga, c, hv, -, -, -, hcs, -⟩ := row5_elem (f := fiV) (fun _ => rfl) la'.frow j h5
    have h7 := cell_of_row _ _ 3 _ _ _ la'.box
    rw [h3, hv] at h7
    cases h7
    refine ⟨_, hb, fun t ht => ?_⟩
    rw [hcs t ht, h6]
  case ownA =>
    rintro a' k W W' row ⟨B6, h1, h2, h3⟩ hg hrow
    refine ⟨B6, h1, (hg.block B6 (lt_of_heap h2) fun e => ?_).trans h2, h3⟩
    obtain ⟨-, o, ho, hc⟩ := hrow B6 e.symm
    rw [h2] at ho
    cases ho
    cases hc
  case assign =>
    intro l k W K2 hI hk hK
    have hK2 := Lib.hid hK
    unfold bkEnc
    obtain ⟨f, hf⟩ : ∃ f, f = bkFi h.files k := ⟨_, rfl⟩
    rw [← hf] at hK ⊢
    obtain ⟨f0, f1, f2, f3, f4⟩ := f
    unfold fiAgg
    simp only
    clear hK
    have hpost := hK2.out _ _ (keeps_below5 (below_alloc W (.cells #[.int .i64 f0, .int .i64 f1, .int .i64 f2, .int .i64 f3, .bool f4] 75))) (hI.next (below_alloc _ _)) ⟨W.heap.size, by
      obtain ⟨⟨h', d', -, e2, -⟩, -⟩ := hI
      exact (HY.out W h' d' e2).2.2.2.2, by rw [← hf]; exact heap_new _ _ _ rfl, rfl⟩
    rw [← hf] at hpost
    unfold fiAgg at hpost
    simp only at hpost
    have HP := Lib.hid hpost
    clear hpost hK2 hf hI
    gi_wp2
    exact HP.out
  case body =>
    rintro l k a' W ⟨⟨h', d', e1, e2, e3, e4, e5, e6⟩, e7⟩ ⟨B6, hB6, hx6, rfl⟩ hk
    obtain ⟨m, hm⟩ : ∃ m, h.files.length = m + 1 + k := ⟨h.files.length - 1 - k, by omega⟩
    have hm1 : h.files.length - k = m + 1 := by omega
    have hm2 : h.files.length - 1 - k = m := by omega
    have hm3 : h.files.length - (k + 1) = m := by omega
    have hmf : m < h.files.length := by omega
    obtain ⟨f, hf⟩ : ∃ f, f = bkFi h.files k := ⟨_, rfl⟩
    have hfm : h.files[m]? = some f := by rw [hf]; unfold bkFi; rw [hm2, List.getElem?_eq_getElem hmf]; rfl
    have hfi : f ∈ h.files := List.mem_of_getElem? hfm
    rw [← hf] at hx6 ⊢
    rw [hm1] at e1 e3
    rw [hm2]
    unfold stripE at e1
    rw [hfm] at e1
    simp only at e1
    have hfm' : h'.files[m]? = some f := (e3 m (by omega)).trans hfm
    obtain ⟨y0, y1, y2, y3, hz⟩ := HY.out W h' d' e2
    have HGC := Lib.hid (HGO.out f hfi W (HKK.out W h' d' e2))
    have c0 := cell_of_row _ _ 0 _ _ _ y0
    have c1 := cell_of_row _ _ 0 _ _ _ y1
    have HX6 := Lib.hid hx6
    have HE2 := Lib.hid e2
    have HE3 := Lib.hid e3
    have HE7 := Lib.hid e7
    have HM3 := Lib.hid hm3
    have HFM := Lib.hid hfm'
    have HE4 := Lib.hid e4
    have HE5 := Lib.hid e5
    have HE6 := Lib.hid e6
    have HBD := Lib.hid (HFB.out f hfi)
    obtain ⟨z0, z1, z2, z3, z4, -, zz⟩ := five_cells hx6
    have hbz : B6 < W.heap.size := lt_of_heap hx6
    have HHS := fun W => Lib.hid (SgHas_any f W)
    have hlb : wa.heap.size < W.heap.size := lt_of_heap y0
    have hlb1 : wa.heap.size + 1 < W.heap.size := lt_of_heap y1
    have HB6 := Lib.hid hB6
    cases hgf : goes f with
    | false =>
      rw [hgf] at HGC e1
      rw [if_pos rfl] at e1
      have HE1 := Lib.hid e1
      obtain ⟨f0, f1, f2, f3, f4⟩ := f
      unfold fiAgg at HGC ⊢
      simp only at HGC z0 z1 z2 z3 z4 ⊢
      clear hgf e1 e2 e3 e4 e5 e6 e7 hx6 hf hfm hfm' hfi hm hm1 hm2 hm3 hmf y0 y1 y2 y3
      gi_wp2_with (refine ⟨trivial, ?_⟩; refine (CallsIn.inRound l (callsIn_wide.2 HGC.out)).mono ?_; rintro e w1 ⟨rfl, hb1⟩; have HB1 := Lib.hid hb1; clear hb1)
      refine ⟨keeps_below5 HB1.out, ⟨h', d', ?_, HE2.out.next HB1.out, fun j hj => HE3.out j (by have := HM3.out; omega), HE4.out, HE5.out, HE6.out⟩, fun b hb => ?_⟩
      · rw [HM3.out]; exact HE1.out
      · obtain ⟨n', c', h3⟩ := HE7.out b hb
        exact ⟨n', c', (World.cell?_of_block (a := ⟨g, 3, none⟩) (HB1.out.block g (lt_of_cell h3).1)).trans h3⟩
    | true =>
      rw [hgf] at HGC e1
      rw [if_neg (by decide)] at e1
      have hr0 : (removedE h' d' m f).1 = 0 := by
        by_cases hz : (removedE h' d' m f).1 = 0
        · exact hz
        · rw [if_pos hz] at e1
          exact absurd (by rw [← e1]; exact HR.out) hz
      rw [if_neg (fun h => h hr0)] at e1
      obtain ⟨h5, -⟩ := List.getElem?_eq_some_iff.1 hfm'
      have HRM : Hid (∀ w1, Below W.heap.size W w1 → Calls Tryz.prog 33 #[.pointer (some ⟨g, 0, none⟩), .int .i64 (m : Int)] w1 fun e w' => e = .returned (.int .i64 0) ∧ LS (fun k o => W4.heap[k]? = some o ∧ ¬ X k ∧ ¬ Xd k) w X Xd g gd least (removedE h' d' m f).2.1 (removedE h' d' m f).2.2 w' ∧ Only (fun k => X k ∨ Xd k) w1 w' ∧ SameFB g w1 w') := Lib.hid fun w1 hb1 => by
        have := remove_any _ w w1 X Xd g gd least h' d' (e2.next hb1) m (h'.files.length - (m + 1)) f (by omega) hfm' e5 (HFB.out f hfi) hP
        rw [hr0] at this
        exact this
      have hfl : (removedE h' d' m f).2.1.files = h'.files.eraseIdx m ∧ (removedE h' d' m f).2.1.rows = h'.rows ∧ (removedE h' d' m f).2.1.mi = h'.mi := by
        unfold removedE at hr0 ⊢
        simp only at hr0 ⊢
        rw [if_pos hr0]
        exact ⟨rfl, rfl, rfl⟩
      obtain ⟨h2, hh2⟩ : ∃ h2, h2 = (removedE h' d' m f).2.1 := ⟨_, rfl⟩
      obtain ⟨d2, hd2⟩ : ∃ d2, d2 = (removedE h' d' m f).2.2 := ⟨_, rfl⟩
      rw [← hh2, ← hd2] at HRM e1
      rw [← hh2] at hfl
      have hle : h2.files.length ≤ 1000000 := by rw [hfl.1]; have := List.length_eraseIdx_le h'.files m; omega
      have hfj : ∀ j, j < m → h2.files[j]? = h.files[j]? := fun j hj => by rw [hfl.1, List.getElem?_eraseIdx_of_lt hj]; exact e3 j (by omega)
      have HE1 := Lib.hid e1
      have HFJ := Lib.hid hfj
      have HLE := Lib.hid hle
      have HR2 : Hid (h2.rows.length ≤ 1000000 ∧ h2.mi = h.mi) := Lib.hid ⟨by rw [hfl.2.1]; exact e4, hfl.2.2.trans e6⟩
      have hml : (m : Int) ≤ 1000000 := by omega
      clear e1 e2 e3 e4 e5 e6 e7 hx6 hf hfm hfm' hm hm1 hm2 hm3 hmf y0 y1 y2 y3 hr0 h5 hfl hh2 hd2 hle hfj hgf
      have HBD2 := Lib.hid (HFB.out f hfi)
      clear hfi
      obtain ⟨ff, hff⟩ : ∃ ff, ff = f.first := ⟨_, rfl⟩
      have HFF := Lib.hid hff
      clear hff
      cases hhas : f.has with
      | false =>
        rw [hhas] at HHS HE1
        clear hhas
        obtain ⟨f0, f1, f2, f3, f4⟩ := f
        unfold fiAgg at HGC HHS ⊢
        simp only at HGC HHS HX6 z0 z1 z2 z3 z4 ⊢
        gi_wp2_with (first
          | (refine ⟨trivial, ?_⟩; refine (CallsIn.inRound l (callsIn_wide.2 HGC.out)).mono ?_; rintro e w1 ⟨rfl, hb1⟩; have HB1 := Lib.hid hb1; have c0 := (World.cell?_of_block (a := ⟨wa.heap.size, 0, none⟩) (hb1.block _ hlb)).trans c0; clear hb1)
          | (refine ⟨trivial, ?_⟩; gi_at_call 33; refine (CallsIn.inRound l (callsIn_wide.2 (HRM.out w1 HB1.out))).mono ?_; rintro e w2 ⟨rfl, hl2, ho2, hs2⟩; have HL2 := Lib.hid hl2; have HO2 := Lib.hid ho2; have HS2 := Lib.hid hs2; obtain ⟨z0, z1, z2, z3, z4, -, zz⟩ := five_cells ((ho2.block B6 (Nat.lt_of_lt_of_le hbz HB1.out.size) (fun hx => by have h1 := HB6.out; have h2 := HZ.out; rcases hx with hx | hx; exact absurd (HXl.out _ hx) (by omega); exact absurd (HDl.out _ hx) (by omega))).trans (old_below HX6.out HB1.out)); clear hl2 ho2 hs2)
          | (refine ⟨trivial, ?_⟩; gi_at_call 32; refine (CallsIn.inRound l (callsIn_wide.2 (HHS w2).out)).mono ?_; rintro e w3 ⟨rfl, hb3⟩; have HB3' := Lib.hid hb3; clear hb3))
        refine ⟨(keeps_below5 HB1.out).trans ((keeps_only5 HO2.out fun q hq => by have := HZ.out; rcases hq with hq | hq; have := HXl.out q hq; omega; have := HDl.out q hq; omega).trans (keeps_below5 HB3'.out)), ⟨h2, d2, ?_, HL2.out.next HB3'.out, fun j hj => HFJ.out j (by have := HM3.out; omega), HR2.out.1, HLE.out, HR2.out.2⟩, fun b hb => ?_⟩
        · rw [HM3.out]; exact HE1.out.trans (by rw [if_neg (by decide)])
        · obtain ⟨n', c', h3⟩ := HE7.out b hb
          obtain ⟨n2, c2, h4⟩ := HS2.out b _ _ ((World.cell?_of_block (a := ⟨g, 3, none⟩) (HB1.out.block g (lt_of_cell h3).1)).trans h3)
          exact ⟨n2, c2, (World.cell?_of_block (a := ⟨g, 3, none⟩) (HB3'.out.block g (lt_of_cell h4).1)).trans h4⟩
      | true =>
        rw [hhas] at HHS HE1
        clear hhas
        have HFG : Hid (∀ w3, LS (fun k o => W4.heap[k]? = some o ∧ ¬ X k ∧ ¬ Xd k) w X Xd g gd least h2 d2 w3 → Calls Tryz.prog 41 #[.pointer (some ⟨g, 0, none⟩), .int .i64 f.first] w3 fun e w' => e = .returned (.tuple #[]) ∧ LS (fun k o => W4.heap[k]? = some o ∧ ¬ X k ∧ ¬ Xd k) w X Xd g gd least (forgetE h2 f.first) d2 w' ∧ Only X w3 w' ∧ w'.cell? ⟨g, 3, none⟩ = w3.cell? ⟨g, 3, none⟩) := Lib.hid fun w3 hl3 =>
          forget_any _ w w3 X Xd g gd least h2 d2 hl3 HR2.out.1 (by rw [HR2.out.2]; exact HM.out) f.first (by have := HBD2.out; omega)
        obtain ⟨f0, f1, f2, f3, f4⟩ := f
        unfold fiAgg at HGC HHS ⊢
        simp only at HGC HHS HFG HX6 z0 z1 z2 z3 z4 ⊢
        gi_wp2_with (first
          | (refine ⟨trivial, ?_⟩; refine (CallsIn.inRound l (callsIn_wide.2 HGC.out)).mono ?_; rintro e w1 ⟨rfl, hb1⟩; have HB1 := Lib.hid hb1; have c0 := (World.cell?_of_block (a := ⟨wa.heap.size, 0, none⟩) (hb1.block _ hlb)).trans c0; clear hb1)
          | (refine ⟨trivial, ?_⟩; gi_at_call 33; refine (CallsIn.inRound l (callsIn_wide.2 (HRM.out w1 HB1.out))).mono ?_; rintro e w2 ⟨rfl, hl2, ho2, hs2⟩; have HL2 := Lib.hid hl2; have HO2 := Lib.hid ho2; have HS2 := Lib.hid hs2; obtain ⟨z0, z1, z2, z3, z4, -, zz⟩ := five_cells ((ho2.block B6 (Nat.lt_of_lt_of_le hbz HB1.out.size) (fun hx => by have h1 := HB6.out; have h2 := HZ.out; rcases hx with hx | hx; exact absurd (HXl.out _ hx) (by omega); exact absurd (HDl.out _ hx) (by omega))).trans (old_below HX6.out HB1.out)); clear hl2 ho2 hs2)
          | (refine ⟨trivial, ?_⟩; gi_at_call 32; refine (CallsIn.inRound l (callsIn_wide.2 (HHS w2).out)).mono ?_; rintro e w3 ⟨rfl, hb3⟩; have HB3' := Lib.hid hb3; have HL3' := Lib.hid (HL2.out.next hb3); obtain ⟨c0, c0z⟩ : w3.cell? ⟨wa.heap.size, 0, none⟩ = some (.pointer (some ⟨g, 0, none⟩)) ∧ wa.heap.size < w3.heap.size := ⟨cell_of_row _ _ 0 _ _ _ (HY.out w3 h2 d2 HL3'.out).1, lt_of_heap (HY.out w3 h2 d2 HL3'.out).1⟩; have z0 := (World.cell?_of_block (a := ⟨B6, 0, none⟩) (hb3.block B6 zz)).trans z0; have zz := Nat.lt_of_lt_of_le zz hb3.size; have HF3 := Lib.hid (HFG.out w3.drew (HL3'.out.next (Below.refl _ w3).drew)); clear hb3 z1 z2 z3 z4))
        gi_region_with (refine ⟨trivial, ?_⟩; gi_at_call 41; refine (CallsIn.inRound l (callsIn_wide.2 HF3.out)).mono ?_; rintro e w4 ⟨rfl, hl4, ho4, hc4⟩; have HL4' := Lib.hid hl4; have HO4 := Lib.hid ho4; have HC4 := Lib.hid hc4; clear hl4 ho4 hc4)
        all_goals gi_wp2
        all_goals
          refine ⟨(keeps_below5 HB1.out).trans ((keeps_only5 HO2.out fun q hq => by have := HZ.out; rcases hq with hq | hq; have := HXl.out q hq; omega; have := HDl.out q hq; omega).trans ((keeps_below5 HB3'.out.drew).trans (keeps_only5 HO4.out fun q hq => by have := HZ.out; have := HXl.out q hq; omega))), ⟨forgetE h2 f0, d2, ?_, HL4'.out, fun j hj => HFJ.out j (by have := HM3.out; omega), Nat.le_trans (by unfold forgetE; simp only [List.length_take]; exact Nat.min_le_right _ _) HR2.out.1, HLE.out, HR2.out.2⟩, fun b hb => ?_⟩
          · rw [HM3.out]; exact HE1.out.trans (by rw [if_pos trivial])
          · obtain ⟨n', c', h3⟩ := HE7.out b hb
            obtain ⟨n2, c2, h4⟩ := HS2.out b _ _ ((World.cell?_of_block (a := ⟨g, 3, none⟩) (HB1.out.block g (lt_of_cell h3).1)).trans h3)
            exact ⟨n2, c2, HC4.out.trans ((World.cell?_of_block (a := ⟨g, 3, none⟩) (HB3'.out.block g (lt_of_cell h4).1)).trans h4)⟩
  case done =>
    rintro D W hD ⟨⟨h', d', e1, e2, -⟩, -⟩ hKD
    obtain ⟨-, -, y2, -, hz⟩ := HY.out W h' d' e2
    rw [Nat.sub_self] at e1
    have HE1 : Hid (RR = (0, h', d')) := Lib.hid e1
    have HE2 := Lib.hid e2
    have HK := Lib.hid hKD
    have HY2 := Lib.hid y2
    have b2 := cell_of_row _ _ 0 _ _ _ y2
    have fz := frozen_of_row _ _ 0 _ _ y2
    have hlt := lt_of_heap y2
    have hlt' : wa.heap.size + 1 + 1 < W.heap.size := hlt
    have b2' : W.cell? ⟨wa.heap.size + 1 + 1, 0, none⟩ = some (.int .i64 0) := b2
    have fz' : W.frozen? ⟨wa.heap.size + 1 + 1, 0, none⟩ = false := fz
    clear e1 e2 hKD y2 hz b2 fz hlt
    gi_wp2
    obtain ⟨Wf, hWf⟩ : ∃ Wf, Wf = W.setCell ⟨wa.heap.size + 1 + 1, 0, none⟩ (.int .i64 0) := ⟨_, rfl⟩
    rw [← hWf]
    have hoW : Only (fun q => q = wa.heap.size + 2) W Wf := by rw [hWf]; exact Only.set (Only.refl (fun q => q = wa.heap.size + 2) W) (.inl rfl) _
    have hK' : Wf.heap[D]? = some (.deferred (some [])) := (hoW.block D (lt_of_heap HK.out) (by have := HZ.out; omega)).trans HK.out
    have k0 := cell_put5 (a := ⟨wa.heap.size + 1 + 1, 0, none⟩) (v := .int .i64 0) (by rw [hWf]; simp [go_sem, b2', hlt']) hK'
    have hfin : Only (fun q => q = wa.heap.size + 2 ∨ q = D) W (Wf.putObj D (.deferred none)) := (hoW.mono fun q hq => .inl hq).then ((only_row (grownBy_putObj' Wf D (.deferred none))).mono fun q hq => .inr (Option.some.inj hq).symm)
    have HLF : Hid (LS K w X Xd g gd least h' d' (Wf.putObj D (.deferred none))) := Lib.hid ((HL4.out.stay HE2.out).other hfin (fun q hq => by
      have h1 := HZ.out
      have h2 := HL.out.below.size
      have h3 : wa.heap.size ≤ q := by rcases hq with rfl | rfl <;> omega
      exact ⟨by omega, fun hx => by have := HXl.out q hx; omega, fun hx => by have := HDl.out q hx; omega⟩) fun q o hq hk => by
      have h1 := lt_of_heap (HL.out.kp q o hk).1
      have h2 := HZ.out
      rcases hq with rfl | rfl <;> omega)
    refine ⟨by simp, .inl ⟨_, _, rfl, run_takeDeferred hK', ?_⟩⟩
    have hRR := HE1.out
    rw [HRR.out] at hRR
    refine ⟨.int .i64 0, by simp [results, Tryz.f38, go_sem, k0], rfl, ?_⟩
    rw [hRR]
    exact HLF.out
end Go.Proofs.YtamgjlegcegmeaaGreatDoor.M

/- Part: SegMnd. -/
namespace Go.Proofs.YtamgjlegcegmeaaGreatDoor.M
open Go.RowKit Go.Maps
open D (Fl Dk)

theorem stripE_none {goes : Fi → Bool} {fs : List Fi} (h : ∀ f ∈ fs, goes f = false) : ∀ (i : Nat) (hd : Hd) (d : Dk), stripE goes fs i hd d = (0, hd, d)
  | 0, _, _ => rfl
  | i + 1, hd, d => by
    unfold stripE
    cases hf : fs[i]? with
    | none => rfl
    | some f =>
      simp only
      rw [if_pos (h f (List.mem_of_getElem? hf))]
      exact stripE_none h i hd d

set_option maxRecDepth 40000 in
set_option maxHeartbeats 6400000 in
theorem mend_any (K : Nat → Obj → Prop) (w wa : World) (X Xd : Nat → Prop) (g gd : Nat) (least : Int) (h : Hd) (d : Dk) (l : LS K w X Xd g gd least h d wa) (fn : Fn) (caps : Array Value)
    (hst : ∀ f ∈ h.files, ∀ gs W, W.heap[gs]? = some (.cells #[.func fn #[] caps] 65) → (∀ k o, K k o → W.heap[k]? = some o) → Calls Tryz.prog 45 #[fiAgg f, .pointer (some ⟨gs, 0, none⟩)] W fun e w' => e = .returned (.bool false) ∧ Below W.heap.size W w')
    (htorn : ∀ f ∈ h.files, f.torn = 0) (ho : HdOk h) (hP : Hid (Pow10 w)) :
    Calls Tryz.prog 21 #[.pointer (some ⟨g, 0, none⟩), .func fn #[] caps] wa fun e w' => e = .returned (.int .i64 (syncE h d).1) ∧ ∃ Xd', LS K w X Xd' g gd least (syncE h d).2.1 (syncE h d).2.2 w' := by
  obtain ⟨W1, hW1⟩ : ∃ W1, W1 = wa.alloc (.cells #[.func fn #[] caps] 65) := ⟨_, rfl⟩
  have hb1 : Below wa.heap.size wa W1 := by rw [hW1]; exact below_alloc _ _
  have hx1 : W1.heap[wa.heap.size]? = some (.cells #[.func fn #[] caps] 65) := by rw [hW1]; exact heap_new _ _ _ rfl
  have hl1 := l.next hb1
  have hnX : ¬ X wa.heap.size ∧ ¬ Xd wa.heap.size := ⟨fun hx => Nat.lt_irrefl _ (l.lt hx), fun hx => Nat.lt_irrefl _ (l.ds.lt _ hx)⟩
  have hsn := stripE_none (goes := fun _ => false) (fs := h.files) (fun _ _ => rfl) h.files.length h d
  have hstrip := strip_ok _ w W1 X Xd g gd least h d hl1.keep (fun _ => false) 45 #[.pointer (some ⟨wa.heap.size, 0, none⟩)] (enters_of Tryz.func45 (by kernel_rfl) rfl)
    (fun f hf W hk => hst f hf wa.heap.size W (hk _ _ ⟨hx1, hnX⟩) fun k o hko => by
      obtain ⟨k1, k2, k3⟩ := hl1.kp k o hko
      exact hk k o ⟨k1, k2, k3⟩) (Nat.le_trans ho.rl (Nat.le_refl _)) ho.fl ho.m.1 (fun f hf => (ho.fb f hf).1) hP (by rw [hsn])
  rw [hsn] at hstrip
  simp only at hstrip
  have HST := Lib.hid hstrip
  have HL1 := Lib.hid hl1
  have HTO := Lib.hid htorn
  have HO := Lib.hid ho
  have HW1 := Lib.hid hW1
  clear l hb1 hx1 hl1 hnX hsn hstrip hst htorn ho hW1
  have hmf : ∀ (fn : Fn) (first cap : Array Value) (w : World), (Instr.makeFunc fn first cap).run Tryz.prog w = .ok (.func fn first cap) w := fun _ _ _ _ => rfl
  go_enter Tryz.func21, Tryz.ntmps21
  go_wp2_with fail
  rw [← HW1.out]
  refine HST.out.mono ?_
  rintro e w2 ⟨rfl, hl2⟩
  have HL2 := Lib.hid (HL1.out.stay hl2)
  clear hl2
  obtain ⟨⟨vr, vf, rv, la⟩, lz⟩ := HL2.out.lg
  obtain ⟨fa, fc, rfl, -, -⟩ := row5_slice la.frow
  obtain ⟨c0, c1, c2, c3, c4, c5, c6, cz⟩ := seven_cells la.box
  obtain ⟨nf, hnf⟩ : ∃ nf, nf = h.files.length := ⟨_, rfl⟩
  have HLA := Lib.hid la
  have hnl : nf ≤ 1000000 := by rw [hnf]; exact HO.out.fl
  rw [← hnf] at c3
  have HNF := Lib.hid hnf
  clear la lz c0 c1 c2 c4 c5 c6 hnf
  go_wp2_with fail
  go_loopw [6, 7, 21] (fun _ _ i wr => ∃ k : Nat, i = .int .i64 (k : Int) ∧ k ≤ nf ∧ Below w2.heap.size w2 wr) (fun _ _ i _ => nf - (intOf i).toNat)
  case atStart => exact ⟨0, rfl, Nat.zero_le _, Below.refl _ _⟩
  case round =>
    obtain ⟨k, rfl, hk, hbr⟩ := hrel
    have HBR := Lib.hid hbr
    by_cases hlt : k < nf
    · have hkk : (k : Int) < (nf : Int) := by omega
      have hkf : k < h.files.length := by rw [← HNF.out]; exact hlt
      obtain ⟨ga, c, hv, hgz, -, -, hcs, -⟩ := row5_elem (f := fiV) (fun _ => rfl) (ownsRow_same HLA.out.frow fun q hq => hbr.block q (HL2.out.lt (HLA.out.ff q hq).1)) k hkf
      cases hv
      have e0 := hcs 0 (by omega)
      have e1 := hcs 1 (by omega)
      have e2 := hcs 2 (by omega)
      have e3 := hcs 3 (by omega)
      have e4 := hcs 4 (by omega)
      have hto := HTO.out _ (List.getElem_mem hkf)
      obtain ⟨f, hf⟩ : ∃ f, f = h.files[k] := ⟨_, rfl⟩
      rw [← hf] at e0 e1 e2 e3 e4 hto
      obtain ⟨f0, f1, f2, f3, f4⟩ := f
      simp only [fiV, List.getElem?_cons_zero, List.getElem?_cons_succ, Nat.add_zero] at e0 e1 e2 e3 e4
      simp only at hto
      subst hto
      have HN : Hid (Below w2.heap.size w2 (wr.alloc (.cells #[.int .i64 f0, .int .i64 f1, .int .i64 f2, .int .i64 0, .bool f4] 75))) := Lib.hid (hbr.alloc hbr.size _)
      clear hcs hf hbr
      go_wp2_with fail
      go_roundw
      case rel => exact ⟨k + 1, by go_num, by omega, HN.out⟩
      case measure => simp [intOf]; omega
    · have hkk : ¬ (k : Int) < (nf : Int) := by omega
      have HSY := Lib.hid (Sync_any _ w wr X Xd g gd least h d (HL2.out.next hbr) HO.out hP)
      clear hbr
      go_wp2_with fail
      refine HSY.out.mono ?_
      rintro e w3 ⟨rfl, Xd', hl3⟩
      have HL3 := Lib.hid hl3
      clear hl3
      go_wp2_with fail
      go_ret
      exact ⟨rfl, Xd', HL3.out⟩
end Go.Proofs.YtamgjlegcegmeaaGreatDoor.M

/- Part: SegOpe. -/
namespace Go.Proofs.YtamgjlegcegmeaaGreatDoor.M
open Go.RowKit Go.Maps
open D (Fl Dk)

set_option maxRecDepth 20000 in
set_option maxHeartbeats 3200000 in
theorem scan_empty (d : Dk) (X : Nat → Prop) (gd : Nat) (w : World) (hd : PDskIn w X gd d) (hf : d.fs = []) :
    Calls Tryz.prog 20 #[.pointer (some ⟨gd, 0, none⟩)] w fun e w' => e = .returned (.agg #[.int .i64 0, .int .i64 0, .slice none 0 0, .slice none 0 0, .int .i64 0]) ∧ Below w.heap.size w w' := by
  obtain ⟨W, hW⟩ : ∃ W, W = (w.alloc (.cells #[.int .i64 0, .int .i64 0, .slice none 0 0, .slice none 0 0, .int .i64 0] 60)).alloc (.cells #[.int .i64 0, .int .i64 0, .slice none 0 0, .slice none 0 0, .int .i64 0] 60) := ⟨_, rfl⟩
  have hb : Below w.heap.size w W := by rw [hW]; exact ((Below.refl _ w).alloc (Nat.le_refl _) _).alloc (by simp) _
  have hx1 : W.heap[w.heap.size + 1]? = some (.cells #[.int .i64 0, .int .i64 0, .slice none 0 0, .slice none 0 0, .int .i64 0] 60) := by rw [hW]; exact heap_new _ _ _ (by simp)
  have hx0 : W.heap[w.heap.size]? = some (.cells #[.int .i64 0, .int .i64 0, .slice none 0 0, .slice none 0 0, .int .i64 0] 60) := by rw [hW]; exact old_alloc (heap_new _ _ _ rfl)
  have HNC := Lib.hid (Names_any d X gd W (hd.next hb) (by rw [hf]; exact List.Pairwise.nil) (by rw [hf]; decide))
  rw [hf] at HNC
  have HW := Lib.hid hW
  have HB := Lib.hid hb
  have HX1 := Lib.hid hx1
  have HX0 := Lib.hid hx0
  clear hW hb hx1 hx0 hd
  go_enter Tryz.func20, Tryz.ntmps20
  go_wp2_with fail
  rw [← HW.out]
  refine HNC.out.mono ?_
  rintro e w1 ⟨v, rfl, hb1, hrow⟩
  obtain ⟨na, nc, rfl⟩ := owned_slice hrow
  have HB1 := Lib.hid hb1
  obtain ⟨c0, c1, c2, c3, c4, -, cz⟩ := five_cells (old_below HX1.out hb1)
  have hy0 := old_below HX0.out hb1
  obtain ⟨d0, d1, d2, d3, d4, -, dz⟩ := five_cells hy0
  have e0 := frozen_of_row _ _ 0 _ _ hy0
  have e1 := frozen_of_row _ _ 1 _ _ hy0
  have e2 := frozen_of_row _ _ 2 _ _ hy0
  have e3 := frozen_of_row _ _ 3 _ _ hy0
  have e4 := frozen_of_row _ _ 4 _ _ hy0
  clear hb1 hrow hy0
  simp only [List.length_nil]
  go_wp2_with fail
  go_loopw [16] (fun i wr => i = .int .i64 0 ∧ wr = w1) (fun _ _ => 0)
  case atStart => exact ⟨rfl, rfl⟩
  case round =>
    obtain ⟨rfl, rfl⟩ := hrel
    go_wp2_with fail
    refine bodyPost_ret (v := .agg #[.int .i64 0, .int .i64 0, .slice none 0 0, .slice none 0 0, .int .i64 0]) (by simp [results, Tryz.results20, go_sem, d0, d1, d2, d3, d4, dz]) rfl ?_
    exact ⟨rfl, (((((HB.out.trans (HB1.out.mono HB.out.size)).setCell (by simp) _).setCell (by simp) _).setCell (by simp) _).setCell (by simp) _).setCell (by simp) _⟩

theorem LS.fresh {K : Nat → Obj → Prop} {w wr W : World} {Xd : Nat → Prop} {gd : Nat} {d : Dk} (hd : DS w Xd gd d wr) (hk : ∀ k o, K k o → wr.heap[k]? = some o ∧ ¬ Xd k) (least : Int) (g : Nat) (hg : g = wr.heap.size)
    (hW : W = wr.alloc (.cells #[.int .i64 0, .int .i64 0, .slice none 0 0, .slice none 0 0, .int .i64 0, .pointer (some ⟨gd, 0, none⟩), .int .i64 least] 63)) : LS K w (fun k => k = g) Xd g gd least ⟨0, 0, [], [], 0⟩ d W := by
  have hb : Below wr.heap.size wr W := by rw [hW]; exact below_alloc _ _
  have hbox : W.heap[g]? = some (.cells #[.int .i64 0, .int .i64 0, .slice none 0 0, .slice none 0 0, .int .i64 0, .pointer (some ⟨gd, 0, none⟩), .int .i64 least] 63) := by rw [hW, hg]; exact heap_new _ _ _ rfl
  refine ⟨hd.next hb, ⟨⟨.slice none 0 0, .slice none 0 0, [], hbox, rfl, World.ownsRow_nil _ _ _ _, World.ownsRow_nil _ _ _ _, (fun p hp => by cases hp), rfl, (fun k hk => by cases hk), fun k hk => by cases hk⟩, fun k hk => by rw [hk]; exact lt_of_heap hbox⟩, fun k hk => by rw [hk, hg]; exact hd.below.size, fun k hk hx => by have := hd.lt k hx; omega, fun k o hko => ?_⟩
  obtain ⟨k1, k2⟩ := hk k o hko
  exact ⟨old_below k1 hb, fun e => by have := lt_of_heap k1; omega, k2⟩

set_option maxRecDepth 20000 in
set_option maxHeartbeats 3200000 in
theorem Open_empty (K : Nat → Obj → Prop) (w wr : World) (Xd : Nat → Prop) (gd : Nat) (d : Dk) (hd : DS w Xd gd d wr) (hf : d.fs = []) (hk : ∀ k o, K k o → wr.heap[k]? = some o ∧ ¬ Xd k) (mi mt : Int) (hm : (0 ≤ mi ∧ mi < 10000000000) ∧ (0 ≤ mt ∧ mt < 10000000000)) (size : Int) (hs : 1 ≤ size) (hP : Hid (Pow10 w)) :
    Calls Tryz.prog 6 #[.pointer (some ⟨gd, 0, none⟩), .agg #[.int .i64 mi, .int .i64 mt], .int .i64 size] wr fun e w' => ∃ g X Xd', e = .returned (.tuple #[.pointer (some ⟨g, 0, none⟩), .int .i64 0]) ∧ LS K w X Xd' g gd size ⟨mi, mt, [], [], mi⟩ d w' := by
  obtain ⟨W, hW⟩ : ∃ W, W = wr.alloc (.cells #[.int .i64 mi, .int .i64 mt] 32) := ⟨_, rfl⟩
  obtain ⟨bm, hbm⟩ : ∃ b, b = wr.heap.size := ⟨_, rfl⟩
  have hb : Below wr.heap.size wr W := by rw [hW]; exact below_alloc _ _
  have hx : W.heap[bm]? = some (.cells #[.int .i64 mi, .int .i64 mt] 32) := by rw [hW, hbm]; exact heap_new _ _ _ rfl
  have hmk : okMark (mi, mt) = true := decide_eq_true ⟨hm.1.1, hm.1.2, hm.2.1, hm.2.2⟩
  have HMK := Lib.hid (IsMark_any mi mt)
  rw [hmk] at HMK
  have HD := Lib.hid hd
  have HK := Lib.hid hk
  have HW := Lib.hid hW
  have HB := Lib.hid hb
  have HX := Lib.hid hx
  have HM := Lib.hid hm
  have HBM := Lib.hid hbm
  have HF := Lib.hid hf
  obtain ⟨c0, c1, -, -, cz⟩ := block2 hx
  have hsl : (size < 1) = False := by simp; omega
  have hs2 : decide (size < 1) = false := decide_eq_false (by omega)
  clear hd hk hb hx hm hmk hf hW hbm
  go_enter Tryz.func6, Tryz.ntmps6
  go_wp2_with fail
  rw [← HW.out]
  refine (HMK.out W).mono ?_
  rintro e w1 ⟨rfl, hb1⟩
  have HB1 : Hid (Below wr.heap.size wr w1) := Lib.hid (HB.out.trans (hb1.mono HB.out.size))
  have HX1 := Lib.hid (old_below HX.out hb1)
  clear hb1 c0 c1 cz
  go_wp2_with fail
  refine (scan_empty d Xd gd w1 (HD.out.next HB1.out).dsk HF.out).mono ?_
  rintro e w2 ⟨rfl, hb2⟩
  have HB2 : Hid (Below wr.heap.size wr w2) := Lib.hid (HB1.out.trans (hb2.mono HB1.out.size))
  have HX2 := Lib.hid (old_below HX1.out hb2)
  clear hb2
  go_wp2_with fail
  obtain ⟨W3, hW3⟩ : ∃ W3, W3 = w2.alloc (.cells #[.int .i64 0, .int .i64 0, .slice none 0 0, .slice none 0 0, .int .i64 0, .pointer (some ⟨gd, 0, none⟩), .int .i64 size] 63) := ⟨_, rfl⟩
  obtain ⟨g, hg⟩ : ∃ g, g = w2.heap.size := ⟨_, rfl⟩
  have hb3 : Below w2.heap.size w2 W3 := by rw [hW3]; exact below_alloc _ _
  have HX3 := Lib.hid (old_below HX2.out hb3)
  have hnb : ¬ Xd bm := fun hx => by have := HD.out.lt _ hx; have := HBM.out; omega
  have hl0 : LS (fun k o => K k o ∨ (k = bm ∧ o = .cells #[.int .i64 mi, .int .i64 mt] 32)) w (fun k => k = g) Xd g gd size ⟨0, 0, [], [], 0⟩ d W3 := LS.fresh (HD.out.next HB2.out) (fun k o hko => by
    rcases hko with hko | ⟨rfl, rfl⟩
    · obtain ⟨k1, k2⟩ := HK.out k o hko
      exact ⟨old_below k1 HB2.out, k2⟩
    · exact ⟨HX2.out, hnb⟩) size g hg hW3
  have HL0 := Lib.hid (hl0.next (Below.refl _ W3).drew)
  rw [← hW3, ← hg]
  have r0 : ∀ w' : World, w'.heap[bm]? = some (.cells #[.int .i64 mi, .int .i64 mt] 32) → w'.cell? ⟨bm, 0, none⟩ = some (.int .i64 mi) := fun w' h => cell_of_row _ _ 0 _ _ _ h
  have r1 : ∀ w' : World, w'.heap[bm]? = some (.cells #[.int .i64 mi, .int .i64 mt] 32) → w'.cell? ⟨bm, 1, none⟩ = some (.int .i64 mt) := fun w' h => cell_of_row _ _ 1 _ _ _ h
  rw [← HBM.out]
  have hS : W3.drew.heap[bm]? = some (.cells #[.int .i64 mi, .int .i64 mt] 32) := HX3.out
  clear hW3 hg hb3 hnb hl0
  refine wp_region_held (S := fun w' : World => w'.heap[bm]? = some (.cells #[.int .i64 mi, .int .i64 mt] 32)) (by kernel_rfl) ?_
  refine H_take (i := 0) (v := ?_) rfl (by as_aux_lemma => kernel_rfl) (by as_aux_lemma => kernel_rfl) (by as_aux_lemma => kernel_rfl) (fun _ _ _ h => h) (by rfl) hS ?_ ?_
  rotate_left
  · intro w' hw'; go_simp; with_reducible rfl
  go_simp
  refine H_take (i := 1) (v := ?_) rfl (by as_aux_lemma => kernel_rfl) (by as_aux_lemma => kernel_rfl) (by as_aux_lemma => kernel_rfl) (fun _ _ _ h => h) (by rfl) hS ?_ ?_
  rotate_left
  · intro w' hw'; go_simp; with_reducible rfl
  go_simp
  refine H_take (i := 2) (v := ?_) rfl (by as_aux_lemma => kernel_rfl) (by as_aux_lemma => kernel_rfl) (by as_aux_lemma => kernel_rfl) (fun _ _ _ h => h) (by rfl) hS ?_ ?_
  rotate_left
  · intro w' hw'; go_simp; with_reducible rfl
  go_simp
  refine H_take (i := 3) (v := ?_) rfl (by as_aux_lemma => kernel_rfl) (by as_aux_lemma => kernel_rfl) (by as_aux_lemma => kernel_rfl) (fun _ _ _ h => h) (by rfl) hS ?_ ?_
  rotate_left
  · intro w' hw'; go_simp; with_reducible rfl
  go_simp
  refine H_take (i := 4) (v := ?_) rfl (by as_aux_lemma => kernel_rfl) (by as_aux_lemma => kernel_rfl) (by as_aux_lemma => kernel_rfl) (fun _ _ _ h => h) (by rfl) hS ?_ ?_
  rotate_left
  · intro w' hw'; go_simp; with_reducible rfl
  go_simp
  refine H_one (i := 5) (by as_aux_lemma => kernel_rfl) rfl (by rfl) ?_
  go_simp
  refine (settle_none _ w _ _ Xd g gd size _ d HL0.out rfl rfl mi mt).mono ?_
  rintro e w4 ⟨rfl, hl4⟩
  have hS4 := (hl4.kp bm _ (.inr ⟨rfl, rfl⟩)).1
  have HL4 := Lib.hid hl4
  refine ⟨hS4, ?_⟩
  clear hl4
  go_simp
  refine H_one (i := 6) (by as_aux_lemma => kernel_rfl) rfl (by rfl) ?_
  go_simp
  have hmend := mend_any _ w w4 _ Xd g gd size _ d HL4.out (.func 48) #[] (fun f hf => by cases hf) (fun f hf => by cases hf) ⟨by simp [emptied], by simp [emptied], (fun f hf => by cases hf), HM.out, fun r hr => by cases hr⟩ hP
  have hsy : syncE (emptied ⟨0, 0, [], [], 0⟩ mi mt) d = (0, ⟨mi, mt, [], [], mi⟩, d) := rfl
  rw [hsy] at hmend
  simp only at hmend
  refine hmend.mono ?_
  clear hmend hsy
  rintro e w5 ⟨rfl, Xd5, hl5⟩
  have hS5 := (hl5.kp bm _ (.inr ⟨rfl, rfl⟩)).1
  have HL5 := Lib.hid hl5
  refine ⟨hS5, ?_⟩
  clear hl5
  go_simp
  refine H_take (i := 7) (v := ?_) rfl (by as_aux_lemma => kernel_rfl) (by as_aux_lemma => kernel_rfl) (by as_aux_lemma => kernel_rfl) (fun _ _ _ h => h) (by rfl) hS5 ?_ ?_
  rotate_left
  · intro w' hw'; go_simp; with_reducible rfl
  go_simp
  refine wpAnyH_done (by as_aux_lemma => kernel_rfl) ?_ _
  clear r0 r1 hS hS4 hS5
  go_wp2_with fail
  go_ret2
  exact ⟨g, _, Xd5, rfl, ⟨HL5.out.ds, HL5.out.lg, HL5.out.own, HL5.out.dis, fun k o hko => HL5.out.kp k o (.inl hko)⟩⟩
end Go.Proofs.YtamgjlegcegmeaaGreatDoor.M

/- Part: SegFrm. -/
namespace Go.Proofs.YtamgjlegcegmeaaGreatDoor.M
open Go.RowKit Go.Maps
open D (Fl Dk)

theorem infoEn5 : (Tryz.prog.info? 36).map (fun i => (i.zero, i.size, i.bytes)) = some (some (.agg #[.int .i64 0, .int .i64 0, .int .i64 0, .slice none 0 0]), 4, 48) := by kernel_rfl

theorem yields_en5 {w : World} {x0 x1 x2 : Int} {a : Option Addr} {n c : Nat} {t : TypeId} {g : Nat} (hg : g = w.heap.size) : Yields (w.alloc (.cells #[.int .i64 x0, .int .i64 x1, .int .i64 x2, .slice a n c] t)) (.slice (some ⟨g, 0, none⟩) 1 1) 1 4 [.int .i64 x0, .int .i64 x1, .int .i64 x2, .slice a n c] := by
  subst hg
  refine ⟨rfl, fun u hu => by simp at hu; rcases hu with rfl | rfl | rfl | rfl <;> rfl, .inr ⟨_, _, rfl, fun j u hj => ?_⟩⟩
  have h := cell_of_row (w.alloc (.cells #[.int .i64 x0, .int .i64 x1, .int .i64 x2, .slice a n c] t)) w.heap.size j _ t _ (heap_alloc_new _ _)
  rw [addr_add, Nat.zero_add, h]
  simpa using hj

def enV (e : En) (u : Value) : List Value := [.int .i64 e.idx, .int .i64 e.term, .int .i64 e.kind, u]
def enCells : List En → List Value → List Value
  | e :: es, u :: us => enV e u ++ enCells es us
  | _, _ => []

theorem enCells_snoc (e : En) (u : Value) : ∀ (es : List En) (us : List Value), es.length = us.length → enCells (es ++ [e]) (us ++ [u]) = enCells es us ++ enV e u
  | [], [], _ => by simp [enCells]
  | [], _ :: _, h => by cases h
  | _ :: _, [], h => by cases h
  | a :: es, b :: us, h => by
    simp only [List.cons_append, enCells, List.append_assoc]
    rw [enCells_snoc e u es us (by simpa using h)]

theorem enCells_get : ∀ (es : List En) (us : List Value) (i j : Nat) (h1 : i < es.length) (h2 : i < us.length), j < 4 → (enCells es us)[i * 4 + j]? = (enV es[i] us[i])[j]?
  | [], _, i, _, h1, _, _ => by simp at h1
  | _ :: _, [], i, _, _, h2, _ => by simp at h2
  | a :: es, b :: us, 0, j, _, _, hj => by
    simp only [enCells, Nat.zero_mul, Nat.zero_add, List.getElem_cons_zero]
    rw [List.getElem?_append_left (by simp [enV]; omega)]
  | a :: es, b :: us, i + 1, j, h1, h2, hj => by
    simp only [enCells, List.getElem_cons_succ]
    rw [List.getElem?_append_right (by simp [enV]; omega), show (i + 1) * 4 + j - (enV a b).length = i * 4 + j by simp [enV]; omega]
    exact enCells_get es us i j (by simpa using h1) (by simpa using h2) hj

/-- Entries in new memory. -/
def EsAt (w0 : World) (es : List En) (v : Value) (wr : World) : Prop :=
  Below w0.heap.size w0 wr ∧ ∃ us : List Value, us.length = es.length ∧ wr.ownsRow w0.heap.size 36 4 v es.length (enCells es us) ∧ ∀ (i : Nat) (h1 : i < es.length) (h2 : i < us.length), wr.ownsRow w0.heap.size 5 1 us[i] es[i].b.length (es[i].b.map byteV)

theorem EsAt.nil {w0 wr : World} (hb : Below w0.heap.size w0 wr) : EsAt w0 [] (.slice none 0 0) wr := ⟨hb, [], rfl, World.ownsRow_nil _ _ _ _, fun i h => by simp at h⟩

theorem EsAt.step {w0 wr w7 w8 : World} {es : List En} {e : En} {u v v' : Value} {o : Obj} (h : EsAt w0 es v wr) (hown : Own wr e.b u w7) (us : List Value) (hus : us.length = es.length) (hrow : wr.ownsRow w0.heap.size 36 4 v es.length (enCells es us))
    (heach : ∀ (i : Nat) (h1 : i < es.length) (h2 : i < us.length), wr.ownsRow w0.heap.size 5 1 us[i] es[i].b.length (es[i].b.map byteV))
    (h8 : w8.ownsRow w0.heap.size 36 4 v' (es.length + 1) (enCells es us ++ enV e u)) (g8 : (w7.alloc o).grownBy w8 v.ownBlock) : EsAt w0 (es ++ [e]) v' w8 := by
  obtain ⟨hb, -⟩ := h
  have hb7 : Below w0.heap.size w0 w7 := hb.trans (hown.1.mono hb.size)
  have hsz7 : w0.heap.size ≤ w7.heap.size := hb7.size
  have hb8 : Below w0.heap.size w0 w8 := (hb7.alloc hsz7 o).grown g8 (by simp; omega) (fun j hj => (hrow.lt j hj).1)
  have hoth : ∀ j, j < w7.heap.size → v.ownBlock ≠ some j → w8.heap[j]? = w7.heap[j]? := fun j hj h1 => by
    rw [g8.block j (by simp; omega) (fun e => h1 e.symm), Below.heap_alloc _ _ _ hj]
  have hold : ∀ j, j < wr.heap.size → w7.heap[j]? = wr.heap[j]? := fun j hj => hown.1.block j hj
  refine ⟨hb8, us ++ [u], by simp [hus], by rw [enCells_snoc e u es us hus.symm, List.length_append, List.length_singleton]; exact h8, fun i h1 h2 => ?_⟩
  by_cases hi : i < us.length
  · have hi' : i < es.length := by omega
    simp only [List.getElem_append_left hi, List.getElem_append_left hi']
    refine ownsRow_same (heach i hi' hi) fun j hj => ?_
    have hjl := ((heach i hi' hi).lt j hj).2
    rw [hoth j (by have := hown.1.size; omega) (rows_far (heach i hi' hi) hrow (by decide) hj), hold j hjl]
  · have hie : i = es.length := by simp at h1; omega
    subst hie
    simp only [List.getElem_append_right (Nat.le_refl _), Nat.sub_self, List.getElem_cons_zero, List.getElem_append_right (show us.length ≤ es.length by omega), hus]
    have ho := hown.2
    refine ⟨ho.1, ?_⟩
    rcases ho.2 with h3 | ⟨g, cap, cur, hv, hg, hcur, h4⟩
    · exact .inl h3
    · refine .inr ⟨g, cap, cur, hv, Nat.le_trans hb.size hg, ?_, h4⟩
      have hg7 := (Array.getElem?_eq_some_iff.1 hcur).1
      rw [hoth g hg7 (fun e => by have := (hrow.lt g e).2; omega)]
      exact hcur

theorem EsAt.rep {w0 wr : World} {es : List En} {v : Value} (h : EsAt w0 es v wr) (hi : ∀ e ∈ es, enInt e) : RepEs wr (fun q => w0.heap.size ≤ q ∧ q < wr.heap.size) es v := by
  obtain ⟨-, us, hus, hrow, heach⟩ := h
  rcases hrow.2 with ⟨h1, h2⟩ | ⟨g, cap, cur, hv, hg, hcur, hn, hm, hs, ht⟩
  · exact .inl ⟨List.eq_nil_of_length_eq_zero h2, by rw [h1]; exact Bare.nil⟩
  · unfold maxLen at hm
    refine .inr ⟨g, 0, cap, hv, ⟨hg, lt_of_heap hcur⟩, hn, hm, fun i hi2 => ?_⟩
    have hu : i < us.length := by omega
    rw [hv] at hrow
    have hlen : (enCells es us).length = es.length * 4 := hrow.1
    have hc : ∀ j, j < 4 → wr.cell? ⟨g, 0 + i * 4 + j, none⟩ = (enV es[i] us[i])[j]? := fun j hj => by
      rw [Nat.zero_add, hrow.cellAt _ (by omega)]
      exact enCells_get es us i j hi2 hu hj
    refine ⟨hi _ (List.getElem_mem hi2), hc 0 (by omega), hc 1 (by omega), hc 2 (by omega), us[i], hc 3 (by omega), ?_⟩
    have h9 := heach i hi2 hu
    obtain ⟨ua, uc, hus'⟩ := owned_slice h9
    rw [hus'] at h9 ⊢
    exact RepB.of_own h9

set_option maxRecDepth 20000 in
set_option maxHeartbeats 3200000 in
theorem From_none (X : Nat → Prop) (g gd : Nat) (least : Int) (h : Hd) (ix most : Int) (w : World) (l : Lg w X g gd least h) (ho : HdOk h) (hix : ix ≤ h.mi ∨ h.last.1 < ix) :
    Calls Tryz.prog 11 #[.pointer (some ⟨g, 0, none⟩), .int .i64 ix, .int .i64 most] w fun e w' => e = .returned (.slice none 0 0) ∧ Below w.heap.size w w' := by
  have hp := l.place_any ho ix
  rw [if_pos hix] at hp
  have HP := Lib.hid hp
  clear hp l ho hix
  go_enter Tryz.func11, Tryz.ntmps11
  go_wp2_with fail
  refine HP.out.mono ?_
  rintro e w1 ⟨rfl, hb1⟩
  have HB1 := Lib.hid hb1
  clear hb1
  go_wp2_with fail
  go_ret
  exact ⟨rfl, HB1.out⟩

set_option maxRecDepth 20000 in
set_option maxHeartbeats 6400000 in
theorem From_all (X : Nat → Prop) (g gd : Nat) (least : Int) (h : Hd) (ix most : Int) (w : World) (l : Lg w X g gd least h) (ho : HdOk h) (hs : h.Seq) (hix : h.mi < ix ∧ ix ≤ h.last.1) (hm1 : (h.rows.length : Int) ≤ most) (hm2 : most ≤ 9223372036854775807) :
    Calls Tryz.prog 11 #[.pointer (some ⟨g, 0, none⟩), .int .i64 ix, .int .i64 most] w fun e w' => ∃ v, e = .returned v ∧ EsAt w ((h.rows.drop (ix - h.mi - 1).toNat).map (·.e)) v w' := by
  have hp := l.place_any ho ix
  rw [if_neg (by omega)] at hp
  obtain ⟨⟨vr, vf, rv, la⟩, lz⟩ := l
  have hrv : rv.length = h.rows.length := by rw [← List.length_map (f := (·.1)), la.rows]
  have hlast := hs.last
  obtain ⟨p, hpe⟩ : ∃ p, p = (ix - h.mi - 1).toNat := ⟨_, rfl⟩
  have hpi : ix - h.mi - 1 = (p : Int) := by omega
  rw [hpi] at hp
  rw [← hpe]
  obtain ⟨m, hm⟩ : ∃ m, rv.length = p + m := ⟨rv.length - p, by omega⟩
  have hmp : 0 < m := by omega
  obtain ⟨es, hes⟩ : ∃ es, es = (h.rows.drop p).map (·.e) := ⟨_, rfl⟩
  rw [← hes]
  have hel : es.length = m := by rw [hes, List.length_map, List.length_drop]; omega
  have HEL : Hid (∀ k (h1 : k < m) (h2 : p + k < rv.length), ∃ h3 : k < es.length, es[k] = rv[p + k].1.e) := Lib.hid fun k h1 h2 => ⟨by omega, by
    subst hes
    rw [List.getElem_map, List.getElem_drop]
    have := congrArg (fun l : List Rw => l[p + k]?) la.rows
    simp only [List.getElem?_map] at this
    rw [List.getElem?_eq_getElem h2, List.getElem?_eq_getElem (by omega)] at this
    simp only [Option.map_some, Option.some.injEq] at this
    rw [← this]⟩
  have HPL := Lib.hid hp
  have HLA := Lib.hid la
  have HLZ := Lib.hid lz
  have HRB : Hid (∀ k (h2 : k < rv.length), rv[k].1.e.b.length ≤ 1048576) := Lib.hid fun k h2 => by
    have h3 : rv[k].1 ∈ h.rows := by rw [← la.rows]; exact List.mem_map.2 ⟨_, List.getElem_mem h2, rfl⟩
    exact (ho.rb _ h3).2.2.2
  obtain ⟨ga, rc, hvr, hgz, hrc, hrcm, -, -⟩ := row5_elem (f := rwV) (fun _ => rfl) la.rrow p (by omega)
  obtain ⟨-, -, c2, -, -, -, -, cz⟩ := seven_cells la.box
  rw [hvr] at c2
  have HVR := Lib.hid hvr
  have HROW : Hid (∀ wr : World, Below w.heap.size w wr → ∀ k, k < m → ∃ h2 : p + k < rv.length, ga < wr.heap.size ∧ (∀ j, j < 5 → wr.cell? ⟨ga, p * 5 + k * 5 + j, none⟩ = (rwV rv[p + k])[j]?)) := Lib.hid fun wr hb k hk => by
    have h2 : p + k < rv.length := by omega
    obtain ⟨ga', rc', hv', hz', -, -, hcs, -⟩ := row5_elem (f := rwV) (fun _ => rfl) (ownsRow_same la.rrow fun q hq => hb.block q (lz q (la.fr q hq).1)) (p + k) h2
    rw [hvr] at hv'
    cases hv'
    exact ⟨h2, hz', fun j hj => by rw [← Nat.add_mul]; exact hcs j hj⟩
  obtain ⟨nr, hnr⟩ : ∃ nr, nr = rv.length := ⟨_, rfl⟩
  rw [← hnr] at c2 hrc hm
  have hn1 : nr - p = m := by omega
  have hn2 : ¬ rc = p := by omega
  have hn3 : (p : Int) ≤ (nr : Int) := by omega
  have hn4 : (nr : Int) ≤ (rc : Int) := by omega
  have hn5 : min most (m : Int) = (m : Int) := by omega
  have hn6 : (m : Int) ≤ 1000000 := by have := ho.rl; omega
  have hn7 : decide (most < 1) = false := decide_eq_false (by omega)
  have hn8 : m ≤ rc - p := by omega
  have hn9 : (m : Int) ≤ ((rc - p : Nat) : Int) := by omega
  have hm0 : (1 : Int) ≤ most := by omega
  have HBD : Hid (∀ k (h2 : k < rv.length), RepB w (fun q => q < w.heap.size) rv[k].1.e.b rv[k].2 ∧ ∃ a c, rv[k].2 = .slice a rv[k].1.e.b.length c) := Lib.hid fun k h2 => by
    obtain ⟨B, b1, b2⟩ := la.bod _ (List.getElem_mem h2)
    obtain ⟨a, c, hv, -⟩ := b1.slice
    exact ⟨b1.weak fun q hq => lz q (b2 q hq).1, a, c, hv⟩
  have HCZ := Lib.hid cz
  have HC2 := Lib.hid c2
  have HES := Lib.hid hel
  obtain ⟨iE, hiE, hiE0, hiE1, hiE2⟩ := info_parts infoEn5
  clear hp la lz hrv hlast hpe hpi hes hel hvr hs hix hm1 ho hnr hm c2 cz
  go_enter Tryz.func11, Tryz.ntmps11
  go_wp2_with fail
  refine HPL.out.mono ?_
  rintro e w1 ⟨rfl, hb1⟩
  have HB1 := Lib.hid hb1
  have c2 : w1.cell? ⟨g, 2, none⟩ = some (.slice (some ⟨ga, 0, none⟩) nr rc) := (World.cell?_of_block (a := ⟨g, 2, none⟩) (hb1.block g HCZ.out)).trans HC2.out
  have cz : g < w1.heap.size := Nat.lt_of_lt_of_le HCZ.out hb1.size
  clear hb1
  go_wp2_with fail
  clear c2 cz
  go_loopw [10, 12, 41] (fun va _ vi wr => ∃ (k : Nat) (a : Option Addr) (c : Nat), vi = .int .i64 (k : Int) ∧ va = .slice a k c ∧ k ≤ m ∧ Hid (EsAt w (es.take k) (.slice a k c) wr)) (fun _ _ i _ => m - (intOf i).toNat)
  case atStart => exact ⟨0, none, 0, rfl, rfl, Nat.zero_le _, Lib.hid (EsAt.nil HB1.out)⟩
  case round =>
    obtain ⟨k, a, c, rfl, rfl, hk, HAT⟩ := hrel
    by_cases hlt : k < m
    · have hkk : (k : Int) < (m : Int) := by omega
      obtain ⟨h2, hgw, hcs⟩ := HROW.out wr HAT.out.1 k hlt
      obtain ⟨h3, hek⟩ := HEL.out k hlt h2
      obtain ⟨hrb, ua, uc, huv⟩ := HBD.out (p + k) h2
      have hbl := HRB.out (p + k) h2
      have e0 := hcs 0 (by omega)
      have e1 := hcs 1 (by omega)
      have e2 := hcs 2 (by omega)
      have e3 := hcs 3 (by omega)
      have e4 := hcs 4 (by omega)
      simp only [rwV, List.getElem?_cons_zero, List.getElem?_cons_succ, Nat.add_zero] at e0 e1 e2 e3 e4
      rw [huv] at e3 hrb
      obtain ⟨po, hpo⟩ : ∃ po, po = rv[p + k].1.pos := ⟨_, rfl⟩
      rw [← hpo] at e4
      obtain ⟨e, he⟩ : ∃ e, e = rv[p + k].1.e := ⟨_, rfl⟩
      rw [← he] at e0 e1 e2 e3 hrb hbl hek
      have htk : es.take (k + 1) = es.take k ++ [e] := by rw [← hek, List.take_succ_eq_append_getElem h3]
      have HTK := Lib.hid htk
      obtain ⟨W, hW⟩ : ∃ W, W = wr.alloc (.cells #[.int .i64 e.idx, .int .i64 e.term, .int .i64 e.kind, .slice ua e.b.length uc, .int .i64 po] 77) := ⟨_, rfl⟩
      have hbw : Below wr.heap.size wr W := by rw [hW]; exact below_alloc _ _
      have HCP := Lib.hid (copied_any e (.slice ua e.b.length uc) (fun q => q < w.heap.size) W (hrb.same (fun _ h => h) fun q hq => (hbw.block q (Nat.lt_of_lt_of_le hq HAT.out.1.size)).trans (HAT.out.1.block q hq)) (fun q hq => Nat.lt_of_lt_of_le hq (Nat.le_trans HAT.out.1.size hbw.size)) (by omega))
      obtain ⟨us, hus, hrow, heach⟩ := HAT.out.2
      have hlk : (es.take k).length = k := by rw [List.length_take]; omega
      rw [hlk] at hrow hus
      have HROW2 := Lib.hid hrow
      have HUS := Lib.hid hus
      have HEACH := Lib.hid heach
      have HLK := Lib.hid hlk
      have HW := Lib.hid hW
      have HBW := Lib.hid hbw
      unfold enAgg at HCP
      obtain ⟨ei, et, ek, eb⟩ := e
      simp only at e0 e1 e2 e3 HCP HW
      obtain ⟨bl, hbl2⟩ : ∃ bl, bl = eb.length := ⟨_, rfl⟩
      rw [← hbl2] at e3 HCP HW
      have HBL2 := Lib.hid hbl2
      clear hcs hek hrb huv hbl hpo he htk hW hbw hrow hus heach hlk hbl2
      go_wp2_with fail
      rw [← HW.out]
      refine HCP.out.mono ?_
      rintro x w7 ⟨u, rfl, hown⟩
      obtain ⟨va, vc, rfl⟩ := hown.slice
      have HOWN := Lib.hid hown
      have hb7 := hown.1
      rw [← HBL2.out] at HOWN ⊢
      have HR7 : Hid ((w7.alloc (.cells #[.int .i64 ei, .int .i64 et, .int .i64 ek, .slice va bl vc] 36)).ownsRow w.heap.size 36 4 (.slice a k c) k (enCells (es.take k) us)) := Lib.hid (ownsRow_same HROW2.out fun q hq => by
        have h4 := (HROW2.out.lt q hq).2
        rw [Below.heap_alloc _ _ _ (Nat.lt_of_lt_of_le h4 (Nat.le_trans HBW.out.size hb7.size)), hb7.block q (Nat.lt_of_lt_of_le h4 HBW.out.size), HBW.out.block q h4])
      have HSZ7 : Hid (w.heap.size ≤ w7.heap.size + 1) := Lib.hid (by have := HAT.out.1.size; have := HBW.out.size; have := hb7.size; omega)
      clear hown hb7 e0 e1 e2 e3 e4 hgw
      go_wp2_with (at_builtin; refine wpList_append_any _ rfl (.tmp 45) (.tmp 49) 33 rfl w.heap.size 36 iE (.agg #[.int .i64 0, .int .i64 0, .int .i64 0, .slice none 0 0]) 4 48 Tryz.underlying33 hiE hiE0 hiE1 hiE2 rfl (by decide) _ k _ rfl HR7.out _ rfl 1 [.int .i64 ei, .int .i64 et, .int .i64 ek, .slice va bl vc] (yields_en5 rfl) (by unfold maxLen; omega) (by omega) (by simp; exact HSZ7.out) ?_)
      intro v9 w9 happ
      obtain ⟨hr9, hg9, -⟩ := happ
      obtain ⟨ra9, rc9, rfl⟩ := owned_slice hr9
      have HN9 : Hid (EsAt w (es.take (k + 1)) (.slice ra9 (k + 1) rc9) w9) := Lib.hid (by
        rw [HTK.out]
        have hlk := HLK.out
        refine HAT.out.step (e := ⟨ei, et, ek, eb⟩) (HOWN.out.base HBW.out) us (by rw [HUS.out, hlk]) (by rw [hlk]; exact HROW2.out) HEACH.out (by rw [hlk]; exact hr9) hg9)
      clear hr9 hg9
      go_wp2_with fail
      go_roundw
      case rel => exact ⟨k + 1, ra9, rc9, by go_num, rfl, by omega, HN9⟩
      case measure => simp [intOf]; omega
    · have hkk : ¬ (k : Int) < (m : Int) := by omega
      obtain rfl : k = m := by omega
      have HE : Hid (EsAt w es (.slice a k c) wr) := Lib.hid (by have h1 := HAT.out; rw [List.take_of_length_le (by rw [HES.out]; exact Nat.le_refl _)] at h1; exact h1)
      go_wp2_with fail
      go_ret
      exact ⟨_, rfl, HE.out⟩
end Go.Proofs.YtamgjlegcegmeaaGreatDoor.M

/- Part: SegEnt. -/
namespace Go.Proofs.YtamgjlegcegmeaaGreatDoor.M
open Go.RowKit
open D (Fl Dk)

set_option maxRecDepth 20000 in
set_option maxHeartbeats 3200000 in
theorem entryOf_row (e : En) (rest : List UInt8) (F : Nat → Prop) (v : Value) (w : World) (hv : RepB w F (sgRow e ++ rest) v) (hF : ∀ k, F k → k < w.heap.size) (hl : (sgRow e ++ rest).length ≤ 1099511627776) (hT : Hid (Tab w))
    (h1 : 1 ≤ e.idx ∧ e.idx < 10000000000) (h2 : 1 ≤ e.term ∧ e.term < 10000000000) (h3 : 0 ≤ e.kind ∧ e.kind ≤ 255) (hb : e.b.length ≤ 1048576) :
    Calls Tryz.prog 72 #[v] w fun x w' => Below w.heap.size w w' ∧ ∃ u, x = .returned (.tuple #[enAgg e u, .int .i64 ((sgRow e).length : Int), .bool true]) ∧ RepB w' (fun k => w.heap.size ≤ k ∧ k < w'.heap.size) e.b u := by
  obtain ⟨ei, et, ek, b⟩ := e
  simp only at h1 h2 h3 hb
  obtain ⟨i, rfl⟩ := Int.eq_ofNat_of_zero_le (show 0 ≤ ei by omega)
  obtain ⟨t, rfl⟩ := Int.eq_ofNat_of_zero_le (show 0 ≤ et by omega)
  obtain ⟨k, rfl⟩ := Int.eq_ofNat_of_zero_le h3.1
  have hfl := sgForm_le ⟨(i : Int), (t : Int), (k : Int), b⟩
  simp only at hfl
  obtain ⟨E, hE⟩ : ∃ E : En, E = ⟨(i : Int), (t : Int), (k : Int), b⟩ := ⟨_, rfl⟩
  have hEb : b = E.b := by rw [hE]
  have hag : ∀ u, enAgg E u = .agg #[.int .i64 (i : Int), .int .i64 (t : Int), .int .i64 (k : Int), u] := fun u => by rw [hE]; rfl
  have hfm : sgForm E = num i ++ (num t ++ (num k ++ (num b.length ++ b))) := by rw [hE]; rfl
  have htk := take_row4 i t k b (by omega) (by omega) (by omega) (by omega)
  rw [← hfm] at htk
  rw [← hE] at hv hl hfl ⊢
  obtain ⟨fm, hfmE⟩ : ∃ fm, fm = sgForm E := ⟨_, rfl⟩
  rw [← hfmE] at htk
  obtain ⟨z, hz⟩ : ∃ z, z = fm.length := ⟨_, rfl⟩
  obtain ⟨s, hs⟩ : ∃ s, s = C.sumOf (four z ++ fm) := ⟨_, rfl⟩
  have hsl : s < 4294967296 := by rw [hs]; exact C.sumOf_lt _
  have hrow : sgRow E = four s ++ (four z ++ fm) := by unfold sgRow; rw [hs, hz, hfmE]
  have hrl : (sgRow E).length = z + 8 := by rw [hrow, hz]; simp [four_length]; omega
  rw [← hfmE, ← hz] at hfl
  have hzl : z < 4294967296 := by omega
  rw [hrl]
  rw [hrow] at hv hl
  obtain ⟨L, hL⟩ : ∃ L, L = four s ++ (four z ++ fm) ++ rest := ⟨_, rfl⟩
  rw [← hL] at hv hl
  obtain ⟨n, hn⟩ : ∃ n, n = L.length := ⟨_, rfl⟩
  have hnz : z + 8 ≤ n := by rw [hn, hL]; simp only [List.length_append, four_length]; omega
  have h9 : 0 < z := by
    rw [hz, hfmE, hfm]
    simp [num]
  obtain ⟨va, vc, rfl, -⟩ := hv.slice
  have hvc : L.length ≤ vc ∧ vc ≤ 9223372036854775807 := by
    rcases hv with ⟨h, -⟩ | ⟨_, _, c', h, -, hl2, hmx, -⟩
    · rw [h] at hn; simp at hn; omega
    · cases h; exact ⟨hl2, hmx⟩
  obtain ⟨gb, off, rfl, hFg, hc⟩ := RepB.elem2 hv (i := 0) (by omega)
  have hgz := hF gb hFg
  have HV4 : Hid (∀ w', Below w.heap.size w w' → RepB w' (fun k => k < w.heap.size) (L.drop 4) (.slice (some ⟨gb, off + 4, none⟩) (n - 4) (vc - 4))) := Lib.hid fun w' hw' => by
    have h := RepB.dropN (w := w') (F := fun k => k < w.heap.size) 4 hgz (fun j hj => by rw [hw'.cell (p := ⟨gb, off + j, none⟩) hgz]; exact hc j hj) (by omega) hvc.1 hvc.2
    rw [if_neg (by omega), ← hn] at h
    exact h
  have hcw : ∀ w', Below w.heap.size w w' → ∀ (j : Nat) (hj : j < L.length), w'.cell? ⟨gb, off + j, none⟩ = some (.int .u8 (L[j].toNat : Int)) := fun w' hw' j hj => by rw [hw'.cell (p := ⟨gb, off + j, none⟩) hgz]; exact hc j hj
  have htl : (L.take (8 + z)).length = 8 + z := by rw [List.length_take]; omega
  have htc : ∀ w', Below w.heap.size w w' → ∀ (j : Nat) (hj : j < (L.take (8 + z)).length), w'.cell? ⟨gb, off + j, none⟩ = some (.int .u8 ((L.take (8 + z))[j].toNat : Int)) := fun w' hw' j hj => by
    rw [hcw w' hw' j (by omega)]
    simp
  have t8 : L.take (8 + z) = four s ++ (four z ++ fm) := by
    rw [hL, List.take_left' (by simp only [List.length_append, four_length]; omega)]
  have HVT : Hid (∀ w', Below w.heap.size w w' → RepB w' (fun k => k < w.heap.size) (four s ++ (four z ++ fm)) (.slice (some ⟨gb, off, none⟩) (8 + z) vc)) := Lib.hid fun w' hw' => by
    have h := RepB.take (hv.same (fun k hk => hF k hk) fun k hk => hw'.block k (hF k hk)) (8 + z) (by omega)
    rw [t8] at h
    exact h
  have HV44 : Hid (∀ w', Below w.heap.size w w' → RepB w' (fun k => k < w.heap.size) (four z ++ fm) (.slice (some ⟨gb, off + 4, none⟩) (8 + z - 4) (vc - 4))) := Lib.hid fun w' hw' => by
    have h := RepB.dropN (w := w') (F := fun k => k < w.heap.size) 4 hgz (htc w' hw') (by omega) (by omega) hvc.2
    rw [if_neg (by omega), htl, t8, List.drop_left' (four_length _)] at h
    exact h
  have HV88 : Hid (∀ w', Below w.heap.size w w' → RepB w' (fun k => k < w.heap.size) fm (.slice (some ⟨gb, off + 8, none⟩) z (vc - 8))) := Lib.hid fun w' hw' => by
    have h := RepB.dropN (w := w') (F := fun k => k < w.heap.size) 8 hgz (htc w' hw') (by omega) (by omega) hvc.2
    rw [if_neg (by omega), htl, t8, ← List.append_assoc, List.drop_left' (by simp [four_length]), Nat.add_sub_cancel_left] at h
    exact h
  have d4 : L.drop 4 = four z ++ fm ++ rest := by rw [hL, List.append_assoc, List.drop_left' (four_length _)]
  rw [← hn] at hl hvc ⊢
  have HD4 := Lib.hid d4
  have HTK := Lib.hid htk
  have HAG := Lib.hid hag
  have hv4 : ¬ vc = 4 := by omega
  have hv8 : ¬ vc = 8 := by omega
  have HEB := Lib.hid hEb
  have HFM := Lib.hid hfmE
  have HZ := Lib.hid hz
  have HS := Lib.hid hs
  have HHL := Lib.hid hl
  have HC := Lib.hid hc
  have hvc1 := hvc.1
  have hvc2 := hvc.2
  have b1 := h1
  have hi : i < 10000000000 ∧ 1 ≤ i := by omega
  have ht : t < 10000000000 ∧ 1 ≤ t := by omega
  have hk : k ≤ 255 := by omega
  clear hv hc hcw htl htc hL hn hF hFg d4 t8 htk hag hEb hfm hfmE hz hs hrow hrl hvc h1 h2 h3 b1 hE
  go_enter Tryz.func72, Tryz.ntmps72
  go_wp2_with fail
  obtain ⟨W0, hW0⟩ : ∃ W0, W0 = w.alloc (.cells #[.int .i64 0, .int .i64 0, .int .i64 0, .slice none 0 0] 36) := ⟨_, rfl⟩
  have hb0 : Below w.heap.size w W0 := by rw [hW0]; exact below_alloc _ _
  have hx0 : W0.heap[w.heap.size]? = some (.cells #[.int .i64 0, .int .i64 0, .int .i64 0, .slice none 0 0] 36) := by rw [hW0]; exact heap_new _ _ _ rfl
  have HB0 := Lib.hid hb0
  have HX0 := Lib.hid hx0
  rw [← hW0]
  clear hW0 hb0 hx0
  have hwd := word_any _ _ _ _ _ (fm ++ rest) _ W0 (show RepB W0 _ (four z ++ (fm ++ rest)) _ by rw [← List.append_assoc, ← HD4.out]; exact HV4.out W0 HB0.out)
  rw [four_word z hzl] at hwd
  refine hwd.mono ?_
  rintro e w1 ⟨rfl, hb1⟩
  have HB1 : Hid (Below w.heap.size w w1) := Lib.hid (HB0.out.trans (hb1.mono HB0.out.size))
  have HX1 := Lib.hid (old_below HX0.out hb1)
  clear hb1 hwd
  have hzw : decide ((z : Int) > (n : Int) - 8) = false := by simp; omega
  have hz8 : (0 : Int) ≤ 8 + (z : Int) ∧ 8 + (z : Int) ≤ (vc : Int) := by omega
  have hz2 : (z : Int) < 4294967296 := by omega
  go_wp2_with fail
  clear hzw hz2
  have hz4 : (4 : Int) ≤ 8 + (z : Int) ∧ (8 : Int) ≤ 8 + (z : Int) := by omega
  have hS : Below w1.heap.size w1 w1.drew := (Below.refl _ _).drew
  have HS1 : Hid (∀ w', Below w1.heap.size w1 w' → Below w.heap.size w w') := Lib.hid fun w' h => HB1.out.trans (h.mono HB1.out.size)
  have WORD : ∀ wq, Below w1.heap.size w1 wq → Calls Tryz.prog 102 #[.slice (some ⟨gb, off, none⟩) (8 + z) vc] wq fun e w' => e = .returned (.int .u32 (s : Int)) ∧ Below wq.heap.size wq w' := fun wq h => by
    have hwd := word_any _ _ _ _ _ (four z ++ fm) _ wq (HVT.out wq (HS1.out wq h))
    rw [four_word s hsl] at hwd
    exact hwd
  obtain ⟨ob, hob⟩ : ∃ ob, ob = Obj.cells #[.slice (some ⟨gb, off + 4, none⟩) (8 + z - 4) (vc - 4)] 34 := ⟨_, rfl⟩
  have HOB := Lib.hid hob
  clear hob
  have FITS : ∀ wq, Below w1.heap.size w1 wq → ∀ g, g = wq.heap.size → ∀ wr, Below (wq.alloc ob).heap.size (wq.alloc ob) wr → Calls Tryz.prog 103 #[.int .u32 (s : Int), .slice (some ⟨g, 0, none⟩) 1 1] wr fun e w' => e = .returned (.bool true) ∧ wr = w' := fun wq h g hg wr hr => by
    have hw := HS1.out wq h
    have hl := RepBl.one (t := 34) (HV44.out wq hw) hg fun k hk => Nat.lt_of_lt_of_le hk hw.size
    rw [← HOB.out] at hl
    have hz := hw.size
    have hwr : Below w.heap.size w wr := hw.trans (((below_alloc wq ob).mono hw.size).trans (hr.mono (by simp; omega)))
    have := Fits_any s [four z ++ fm] _ _ wr (hl.later (fun k hk => by
      simp only [World.size_alloc]
      rcases hk with hk | hk
      · omega
      · omega) hr) (Lib.hid (hT.out.next hwr))
    rw [show [four z ++ fm].flatten = four z ++ fm by simp, ← HS.out, decide_eq_true rfl] at this
    exact this
  have HWORD := Lib.hid WORD
  refine wp_region_held (S := fun w' => Below w1.heap.size w1 w') (by kernel_rfl) ?_
  refine H_take (i := 0) (v := ?_) rfl (by as_aux_lemma => kernel_rfl) (by as_aux_lemma => kernel_rfl) (by as_aux_lemma => kernel_rfl) (fun _ _ _ h => h) (by rfl) hS ?_ ?_
  rotate_left
  · intro w' hw'; go_simp; with_reducible rfl
  go_simp
  refine H_take (i := 2) (v := ?_) rfl (by as_aux_lemma => kernel_rfl) (by as_aux_lemma => kernel_rfl) (by as_aux_lemma => kernel_rfl) (fun _ _ _ h => h) (by rfl) hS ?_ ?_
  rotate_left
  · intro w' hw'; go_simp; with_reducible rfl
  go_simp
  refine H_take (i := 3) (v := ?_) rfl (by as_aux_lemma => kernel_rfl) (by as_aux_lemma => kernel_rfl) (by as_aux_lemma => kernel_rfl) (fun _ _ _ h => h) (by rfl) hS ?_ ?_
  rotate_left
  · intro w' hw'; go_simp; with_reducible rfl
  go_simp
  refine H_both (i := 1) (j := 4) (by as_aux_lemma => kernel_rfl) rfl rfl (by rfl) (by rfl) ?_ ?_
  · go_simp
    refine (WORD w1.drew hS).mono ?_
    rintro e w2 ⟨rfl, hb2⟩
    replace hb2 : Below w1.heap.size w1 w2 := hS.trans (hb2.mono hS.size)
    refine ⟨hb2, ?_⟩
    go_simp
    refine H_one (i := 4) (by as_aux_lemma => kernel_rfl) rfl (by rfl) ?_
    go_simp
    rw [← HOB.out]
    have hb3 : Below w1.heap.size w1 (w2.alloc ob) := hb2.alloc hb2.size _
    refine ⟨hb3, ?_⟩
    go_simp
    refine H_one (i := 5) (by as_aux_lemma => kernel_rfl) rfl (by rfl) ?_
    go_simp
    refine (FITS w2 hb2 _ rfl _ (Below.refl _ _)).mono ?_
    rintro e w3 ⟨rfl, rfl⟩
    obtain ⟨W4, hW4⟩ : ∃ W4, W4 = w2.alloc ob := ⟨_, rfl⟩
    rw [← hW4] at hb3 ⊢
    clear hW4
    refine ⟨hb3, ?_⟩
    go_simp
    refine H_take (i := 6) (v := ?_) rfl (by as_aux_lemma => kernel_rfl) (by as_aux_lemma => kernel_rfl) (by as_aux_lemma => kernel_rfl) (fun _ _ _ h => h) (by rfl) hb3 ?_ ?_
    rotate_left
    · intro w' hw'; go_simp; with_reducible rfl
    go_simp
    refine wpAnyH_done (by as_aux_lemma => kernel_rfl) ?_ _
    have HB4 : Hid (Below w.heap.size w W4) := Lib.hid (HS1.out _ hb3)
    have HX4 := Lib.hid (old_below HX1.out hb3)
    clear WORD FITS hS hb2 hb3
    go_wp2_with fail
    refine (Take_any nmRow4 fm _ _ W4 (by decide) (HV88.out W4 HB4.out) (fun q hq => Nat.lt_of_lt_of_le hq HB4.out.size) (by have := HZ.out; have := HHL.out; omega)).mono ?_
    rintro e w5 ⟨hb5, hr5⟩
    rw [HTK.out] at hr5
    obtain ⟨u5, rfl, hu5⟩ := hr5
    obtain ⟨a0, c0, gv, ov, cp, u, rfl, hFv, e0, e1, e2, e3, hu⟩ := rep_rowV hu5
    obtain ⟨ua, uc, rfl, -⟩ := hu.slice
    have HU := Lib.hid hu
    have hvz := hFv.2
    have hvz1 := hFv.1
    have hbz := (HB4.out.size)
    obtain ⟨W6, hW6⟩ : ∃ W6, W6 = w5.alloc (.cells #[.int .u64 0, .slice a0 0 c0, .slice (some ⟨gv, ov, none⟩) 4 cp] 95) := ⟨_, rfl⟩
    have hb6 : Below W4.heap.size W4 W6 := by rw [hW6]; exact hb5.alloc hb5.size _
    have hb56 : Below w5.heap.size w5 W6 := by rw [hW6]; exact below_alloc _ _
    have hx6 : W6.heap[w5.heap.size]? = some (.cells #[.int .u64 0, .slice a0 0 c0, .slice (some ⟨gv, ov, none⟩) 4 cp] 95) := by rw [hW6]; exact heap_new _ _ _ rfl
    have h2c := cell_of_row W6 w5.heap.size 2 _ _ _ hx6
    have h2z := lt_of_heap hx6
    have k0 : W6.cell? ⟨gv, ov, none⟩ = some (.int .u64 (i : Int)) := (hb56.cell (p := ⟨gv, ov, none⟩) hvz).trans e0
    have k1 : W6.cell? ⟨gv, ov + 3, none⟩ = some (.int .u64 (t : Int)) := (hb56.cell (p := ⟨gv, ov + 3, none⟩) hvz).trans e1
    have k2 : W6.cell? ⟨gv, ov + 6, none⟩ = some (.int .u64 (k : Int)) := (hb56.cell (p := ⟨gv, ov + 6, none⟩) hvz).trans e2
    have k3 : W6.cell? ⟨gv, ov + 9 + 1, none⟩ = some (.slice ua b.length uc) := (hb56.cell (p := ⟨gv, ov + 10, none⟩) hvz).trans e3
    obtain ⟨c0, c1, c2, c3, f0, f1, f2, f3, cz⟩ := sh_four (old_below HX4.out hb6)
    have HB6 : Hid (Below w.heap.size w W6) := Lib.hid (HB4.out.trans (hb6.mono HB4.out.size))
    have HUW : Hid (∀ w' : World, Only (fun q => q = w.heap.size) W6 w' → RepB w' (fun q => w.heap.size ≤ q ∧ q < w'.heap.size) b (.slice ua b.length uc)) := Lib.hid fun w' ho => HU.out.same (fun q hq => ⟨by omega, by have := ho.size; have := hb56.size; omega⟩) fun q hq => by
      have := hb56.size
      have := lt_of_heap HX4.out
      rw [ho.block q (by omega) (by omega)]
      exact hb56.block q hq.2
    clear hb5 hu5 hFv e0 e1 e2 e3 hu hx6 hb6 hb56
    have HW6 := Lib.hid hW6
    clear hW6
    go_wp2_with fail
    rw [← HW6.out]
    go_quiet (fail)
    go_wp2_with fail
    refine (isNumber_any i _).mono ?_
    rintro e w' ⟨rfl, rfl⟩
    rw [decide_eq_true (show 1 ≤ i ∧ i < 10000000000 by omega)]
    go_wp2_with fail
    refine (isNumber_any t _).mono ?_
    rintro e w' ⟨rfl, rfl⟩
    rw [decide_eq_true (show 1 ≤ t ∧ t < 10000000000 by omega)]
    go_wp2_with fail
    refine bodyPost_ret (v := .tuple #[.agg #[.int .i64 (i : Int), .int .i64 (t : Int), .int .i64 (k : Int), .slice ua b.length uc], .int .i64 ((z + 8 : Nat) : Int), .bool true]) (by simp [results, Tryz.results72, go_sem, c0, c1, c2, c3, cz]; omega) rfl ?_
    rw [← HEB.out]
    simp only [HAG.out]
    exact ⟨((((HB6.out.drewMany _).setCell (Nat.le_refl _) _).setCell (Nat.le_refl _) _).setCell (Nat.le_refl _) _).setCell (Nat.le_refl _) _, _, rfl, HUW.out _ (((((Only.drewN (fun q => q = w.heap.size) W6 _).set (.inl rfl) _).set (.inl rfl) _).set (.inl rfl) _).set (.inl rfl) _)⟩
  · go_simp
    rw [← HOB.out]
    have hb2 : Below w1.heap.size w1 (w1.alloc ob).drew := (below_alloc _ _).drew
    refine ⟨hb2, ?_⟩
    go_simp
    refine H_one (i := 1) (by as_aux_lemma => kernel_rfl) rfl (by rfl) ?_
    go_simp
    refine (WORD _ hb2).mono ?_
    rintro e w3 ⟨rfl, hb3⟩
    have hb4 : Below w1.heap.size w1 w3 := hb2.trans (hb3.mono hb2.size)
    refine ⟨hb4, ?_⟩
    go_simp
    refine H_one (i := 5) (by as_aux_lemma => kernel_rfl) rfl (by rfl) ?_
    go_simp
    refine (FITS w1 (Below.refl _ _) _ rfl w3 ((Below.refl _ _).drew.trans hb3)).mono ?_
    rintro e W4 ⟨rfl, rfl⟩
    refine ⟨hb4, ?_⟩
    go_simp
    refine H_take (i := 6) (v := ?_) rfl (by as_aux_lemma => kernel_rfl) (by as_aux_lemma => kernel_rfl) (by as_aux_lemma => kernel_rfl) (fun _ _ _ h => h) (by rfl) hb4 ?_ ?_
    rotate_left
    · intro w' hw'; go_simp; with_reducible rfl
    go_simp
    refine wpAnyH_done (by as_aux_lemma => kernel_rfl) ?_ _
    have HB4 : Hid (Below w.heap.size w w3) := Lib.hid (HS1.out _ hb4)
    have HX4 := Lib.hid (old_below HX1.out hb4)
    obtain ⟨W4, hW4⟩ : ∃ W4, W4 = w3 := ⟨_, rfl⟩
    rw [← hW4] at HB4 HX4 ⊢
    clear hW4
    clear WORD FITS hS hb2 hb3
    go_wp2_with fail
    refine (Take_any nmRow4 fm _ _ W4 (by decide) (HV88.out W4 HB4.out) (fun q hq => Nat.lt_of_lt_of_le hq HB4.out.size) (by have := HZ.out; have := HHL.out; omega)).mono ?_
    rintro e w5 ⟨hb5, hr5⟩
    rw [HTK.out] at hr5
    obtain ⟨u5, rfl, hu5⟩ := hr5
    obtain ⟨a0, c0, gv, ov, cp, u, rfl, hFv, e0, e1, e2, e3, hu⟩ := rep_rowV hu5
    obtain ⟨ua, uc, rfl, -⟩ := hu.slice
    have HU := Lib.hid hu
    have hvz := hFv.2
    have hvz1 := hFv.1
    have hbz := (HB4.out.size)
    obtain ⟨W6, hW6⟩ : ∃ W6, W6 = w5.alloc (.cells #[.int .u64 0, .slice a0 0 c0, .slice (some ⟨gv, ov, none⟩) 4 cp] 95) := ⟨_, rfl⟩
    have hb6 : Below W4.heap.size W4 W6 := by rw [hW6]; exact hb5.alloc hb5.size _
    have hb56 : Below w5.heap.size w5 W6 := by rw [hW6]; exact below_alloc _ _
    have hx6 : W6.heap[w5.heap.size]? = some (.cells #[.int .u64 0, .slice a0 0 c0, .slice (some ⟨gv, ov, none⟩) 4 cp] 95) := by rw [hW6]; exact heap_new _ _ _ rfl
    have h2c := cell_of_row W6 w5.heap.size 2 _ _ _ hx6
    have h2z := lt_of_heap hx6
    have k0 : W6.cell? ⟨gv, ov, none⟩ = some (.int .u64 (i : Int)) := (hb56.cell (p := ⟨gv, ov, none⟩) hvz).trans e0
    have k1 : W6.cell? ⟨gv, ov + 3, none⟩ = some (.int .u64 (t : Int)) := (hb56.cell (p := ⟨gv, ov + 3, none⟩) hvz).trans e1
    have k2 : W6.cell? ⟨gv, ov + 6, none⟩ = some (.int .u64 (k : Int)) := (hb56.cell (p := ⟨gv, ov + 6, none⟩) hvz).trans e2
    have k3 : W6.cell? ⟨gv, ov + 9 + 1, none⟩ = some (.slice ua b.length uc) := (hb56.cell (p := ⟨gv, ov + 10, none⟩) hvz).trans e3
    obtain ⟨c0, c1, c2, c3, f0, f1, f2, f3, cz⟩ := sh_four (old_below HX4.out hb6)
    have HB6 : Hid (Below w.heap.size w W6) := Lib.hid (HB4.out.trans (hb6.mono HB4.out.size))
    have HUW : Hid (∀ w' : World, Only (fun q => q = w.heap.size) W6 w' → RepB w' (fun q => w.heap.size ≤ q ∧ q < w'.heap.size) b (.slice ua b.length uc)) := Lib.hid fun w' ho => HU.out.same (fun q hq => ⟨by omega, by have := ho.size; have := hb56.size; omega⟩) fun q hq => by
      have := hb56.size
      have := lt_of_heap HX4.out
      rw [ho.block q (by omega) (by omega)]
      exact hb56.block q hq.2
    clear hb5 hu5 hFv e0 e1 e2 e3 hu hx6 hb6 hb56
    have HW6 := Lib.hid hW6
    clear hW6
    go_wp2_with fail
    rw [← HW6.out]
    go_quiet (fail)
    go_wp2_with fail
    refine (isNumber_any i _).mono ?_
    rintro e w' ⟨rfl, rfl⟩
    rw [decide_eq_true (show 1 ≤ i ∧ i < 10000000000 by omega)]
    go_wp2_with fail
    refine (isNumber_any t _).mono ?_
    rintro e w' ⟨rfl, rfl⟩
    rw [decide_eq_true (show 1 ≤ t ∧ t < 10000000000 by omega)]
    go_wp2_with fail
    refine bodyPost_ret (v := .tuple #[.agg #[.int .i64 (i : Int), .int .i64 (t : Int), .int .i64 (k : Int), .slice ua b.length uc], .int .i64 ((z + 8 : Nat) : Int), .bool true]) (by simp [results, Tryz.results72, go_sem, c0, c1, c2, c3, cz]; omega) rfl ?_
    rw [← HEB.out]
    simp only [HAG.out]
    exact ⟨((((HB6.out.drewMany _).setCell (Nat.le_refl _) _).setCell (Nat.le_refl _) _).setCell (Nat.le_refl _) _).setCell (Nat.le_refl _) _, _, rfl, HUW.out _ (((((Only.drewN (fun q => q = w.heap.size) W6 _).set (.inl rfl) _).set (.inl rfl) _).set (.inl rfl) _).set (.inl rfl) _)⟩
end Go.Proofs.YtamgjlegcegmeaaGreatDoor.M

/- Part: SegSc0. -/
namespace Go.Proofs.YtamgjlegcegmeaaGreatDoor.M
open Go.RowKit
open D (Fl Dk)

/-- What a scan holds: five cells, its rows, its segments. -/
structure ScAt (w : World) (X : Nat → Prop) (g : Nat) (rows : List Rw) (files : List Fi) (vr vf : Value) (rv : List (Rw × Value)) : Prop where
  box : w.heap[g]? = some (.cells #[.int .i64 0, .int .i64 0, vr, vf, .int .i64 0] 60)
  rows : rv.map (·.1) = rows
  rrow : w.ownsRow 0 77 5 vr rv.length (rwCells rv)
  frow : w.ownsRow 0 75 5 vf files.length (fiCells files)
  bod : ∀ p ∈ rv, ∃ B : Nat → Prop, RepB w B p.1.e.b p.2 ∧ ∀ k, B k → X k ∧ k ≠ g ∧ vr.ownBlock ≠ some k ∧ vf.ownBlock ≠ some k
  fg : X g
  fr : ∀ k, vr.ownBlock = some k → X k ∧ k ≠ g ∧ vf.ownBlock ≠ some k
  ff : ∀ k, vf.ownBlock = some k → X k ∧ k ≠ g
  lt : ∀ k, X k → k < w.heap.size

theorem ScAt.hc {w : World} {X : Nat → Prop} {g : Nat} {rows : List Rw} {files : List Fi} {vr vf : Value} {rv : List (Rw × Value)} (l : ScAt w X g rows files vr vf rv) : HdC w g 0 0 vr vf 0 :=
  ⟨cell_of_row w g 0 _ _ _ l.box, cell_of_row w g 1 _ _ _ l.box, cell_of_row w g 2 _ _ _ l.box, cell_of_row w g 3 _ _ _ l.box, cell_of_row w g 4 _ _ _ l.box, lt_of_heap l.box⟩

theorem ScAt.same {w w' : World} {X : Nat → Prop} {g : Nat} {rows : List Rw} {files : List Fi} {vr vf : Value} {rv : List (Rw × Value)} (l : ScAt w X g rows files vr vf rv) (hz : w.heap.size ≤ w'.heap.size) (hs : ∀ k, X k → w'.heap[k]? = w.heap[k]?) : ScAt w' X g rows files vr vf rv :=
  ⟨(hs g l.fg).trans l.box, l.rows, ownsRow_same l.rrow fun k hk => hs k (l.fr k hk).1, ownsRow_same l.frow fun k hk => hs k (l.ff k hk).1, fun p hp => by
    obtain ⟨B, h1, h2⟩ := l.bod p hp
    exact ⟨B, h1.same (fun _ h => h) fun k hk => hs k (h2 k hk).1, h2⟩, l.fg, l.fr, l.ff, fun k hk => Nat.lt_of_lt_of_le (l.lt k hk) hz⟩

theorem heap_five2 {w : World} {g : Nat} {x0 x1 x2 x3 x4 y : Value} {t : TypeId} (h : w.heap[g]? = some (.cells #[x0, x1, x2, x3, x4] t)) :
    (w.setCell ⟨g, 2, none⟩ y).heap[g]? = some (.cells #[x0, x1, y, x3, x4] t) := by
  simp [World.setCell, Array.getElem?_modify, h]

/-- One row more. -/
theorem ScAt.pushRow {W w1 w3 : World} {X : Nat → Prop} {g : Nat} {rows : List Rw} {files : List Fi} {vr vf : Value} {rv : List (Rw × Value)} {e : En} {po : Int} {u v' : Value} {o : Obj}
    (la : ScAt W X g rows files vr vf rv) (hb1 : Below W.heap.size W w1) (hu : RepB w1 (fun k => W.heap.size ≤ k ∧ k < w1.heap.size) e.b u) (happ : AppLeft (w1.alloc o) 0 77 5 vr rv.length 1 (rwCells rv) [.int .i64 e.idx, .int .i64 e.term, .int .i64 e.kind, u, .int .i64 po] v' w3) :
    ScAt (w3.setCell ⟨g, 2, none⟩ v') (fun k => X k ∨ (W.heap.size ≤ k ∧ k < w3.heap.size)) g (rows ++ [⟨e, po⟩]) files v' vf (rv ++ [(⟨e, po⟩, u)]) ∧ Only X W (w3.setCell ⟨g, 2, none⟩ v') := by
  obtain ⟨ho, hg, hb⟩ := happ
  have lz := la.lt
  have z1 := hb1.size
  have z3 := hg.size
  simp only [World.size_alloc] at z3
  have hgX := la.fg
  have hgz := lz g hgX
  have st3 : ∀ k, k < w1.heap.size → vr.ownBlock ≠ some k → w3.heap[k]? = w1.heap[k]? := fun k hk hn => by
    rw [hg.block k (by simp; omega) (fun e => hn e.symm), Below.heap_alloc _ _ _ hk]
  have stW : ∀ k, k < W.heap.size → vr.ownBlock ≠ some k → w3.heap[k]? = W.heap[k]? := fun k hk hn => (st3 k (by omega) hn).trans (hb1.block k hk)
  have hgr : vr.ownBlock ≠ some g := fun e => (la.fr g e).2.1 rfl
  have hvg : v'.ownBlock ≠ some g := fun e => by
    rcases hb with hb | hb
    · exact hgr (hb ▸ e)
    · rw [hb] at e
      simp at e
      omega
  have onlyX : Only X W (w3.setCell ⟨g, 2, none⟩ v') := by
    refine ⟨?_, ?_, ?_, by simp; omega, fun k hk hn => ?_⟩
    · exact hg.os.trans hb1.os
    · exact hg.tape.trans hb1.tape
    · exact hg.output.trans hb1.output
    · rw [heap_ne (fun e => hn (by rw [e]; exact hgX))]
      exact stW k hk fun e => hn (la.fr k e).1
  have hvold : ∀ k, v'.ownBlock = some k → k < W.heap.size → vr.ownBlock = some k := fun k hk hl => by
    rcases hb with hb | hb
    · rw [← hb]; exact hk
    · rw [hb] at hk
      simp at hk
      omega
  refine ⟨⟨?_, ?_, ?_, ?_, ?_, .inl hgX, ?_, ?_, ?_⟩, onlyX⟩
  · have := la.box
    rw [← stW g hgz hgr] at this
    exact heap_five2 this
  · simp [la.rows]
  · rw [List.length_append, List.length_singleton]
    have e5 : rwCells (rv ++ [(⟨e, po⟩, u)]) = rwCells rv ++ [.int .i64 e.idx, .int .i64 e.term, .int .i64 e.kind, u, .int .i64 po] := by simp [rwCells, rwV]
    rw [e5]
    exact ownsRow_same ho fun k hk => heap_ne fun e => hvg (e ▸ hk)
  · exact ownsRow_same la.frow fun k hk => by
      have h1 := la.ff k hk
      rw [heap_ne h1.2]
      exact stW k (lz k h1.1) fun e => (la.fr k e).2.2 hk
  · intro p hp
    rcases List.mem_append.1 hp with hp | hp
    · obtain ⟨B, h1, h2⟩ := la.bod p hp
      refine ⟨B, h1.same (fun _ h => h) fun k hk => ?_, fun k hk => ?_⟩
      · obtain ⟨a1, a2, a3, a4⟩ := h2 k hk
        rw [heap_ne a2]
        exact stW k (lz k a1) a3
      · obtain ⟨a1, a2, a3, a4⟩ := h2 k hk
        exact ⟨.inl a1, a2, fun e => a3 (hvold k e (lz k a1)), a4⟩
    · obtain rfl : p = (⟨e, po⟩, u) := by simpa using hp
      refine ⟨fun k => W.heap.size ≤ k ∧ k < w1.heap.size, hu.same (fun _ h => h) fun k hk => ?_, fun k hk => ?_⟩
      · rw [heap_ne (by omega)]
        exact st3 k hk.2 fun e => by have := lz k (la.fr k e).1; omega
      · refine ⟨.inr ⟨hk.1, by omega⟩, by omega, fun e => ?_, fun e => by have := lz k (la.ff k e).1; omega⟩
        rcases hb with hb | hb
        · rw [hb] at e
          have := lz k (la.fr k e).1; omega
        · rw [hb] at e
          simp at e
          omega
  · intro k hk
    have hkz := (ho.lt k hk).2
    refine ⟨?_, fun e => hvg (e ▸ hk), fun e => ?_⟩
    · rcases Nat.lt_or_ge k W.heap.size with h1 | h1
      · exact .inl (la.fr k (hvold k hk h1)).1
      · exact .inr ⟨h1, hkz⟩
    · have h1 := lz k (la.ff k e).1
      exact (la.fr k (hvold k hk h1)).2.2 e
  · intro k hk
    exact ⟨.inl (la.ff k hk).1, (la.ff k hk).2⟩
  · intro k hk
    rw [World.size_setCell]
    rcases hk with hk | hk
    · have := lz k hk; omega
    · exact hk.2

/-- Rows one behind another, from a place on. -/
def laidAt : List En → Int → List Rw
  | [], _ => []
  | e :: es, p => ⟨e, p⟩ :: laidAt es (p + ((sgRow e).length : Int))

def rowsB (es : List En) : List UInt8 := es.flatMap sgRow

theorem laidAt_snoc (e : En) : ∀ (es : List En) (p : Int), laidAt (es ++ [e]) p = laidAt es p ++ [⟨e, p + ((rowsB es).length : Int)⟩]
  | [], p => by simp [laidAt, rowsB]
  | a :: es, p => by
    simp only [List.cons_append, laidAt]
    rw [laidAt_snoc e es]
    simp only [rowsB, List.flatMap_cons, List.length_append]
    congr 3
    congr 1
    push_cast
    omega

/-- The next entries behind a place, one after another. -/
def chain (ix tm : Int) : List En → Prop
  | [] => True
  | e :: es => e.idx = ix + 1 ∧ tm ≤ e.term ∧ chain (ix + 1) e.term es
end Go.Proofs.YtamgjlegcegmeaaGreatDoor.M

/- Part: SegTk1. -/
namespace Go.Proofs.YtamgjlegcegmeaaGreatDoor.M
open Go.RowKit
open D (Fl Dk)

theorem ScAt.slices {w : World} {X : Nat → Prop} {g : Nat} {rows : List Rw} {files : List Fi} {vr vf : Value} {rv : List (Rw × Value)} (l : ScAt w X g rows files vr vf rv) : ∀ p ∈ rv, ∃ a n c, p.2 = .slice a n c := fun p hp => by
  obtain ⟨B, h1, -⟩ := l.bod p hp
  obtain ⟨a, c, h2, -⟩ := h1.slice
  exact ⟨a, _, c, h2⟩

/-- The last entry's term, of what a scan holds. -/
def lastT (rows : List Rw) : Int := ((⟨0, 0, rows, [], 0⟩ : Hd).last).2

theorem ScAt.last_any {w : World} {X : Nat → Prop} {g : Nat} {rows : List Rw} {files : List Fi} {vr vf : Value} {rv : List (Rw × Value)} (l : ScAt w X g rows files vr vf rv) :
    Calls Tryz.prog 24 #[.pointer (some ⟨g, 0, none⟩)] w fun e w' => ∃ x, e = .returned (.agg #[.int .i64 x, .int .i64 (lastT rows)]) ∧ Below w.heap.size w w' := by
  refine (SgLast_any g 0 0 0 vr vf rv w l.hc l.rrow l.slices).mono fun e w' h => ?_
  rw [show lastOf 0 0 rv = (⟨0, 0, rows, [], 0⟩ : Hd).last from lastOf_eq (h := ⟨0, 0, rows, [], 0⟩) l.rows] at h
  exact ⟨_, h.1, h.2⟩

theorem lastT_snoc (rows : List Rw) (r : Rw) : lastT (rows ++ [r]) = r.e.term := by
  unfold lastT Hd.last
  rw [List.getLast?_concat]

theorem lastT_laid : ∀ (es : List En) (rows : List Rw) (ix tm : Int) (k : Nat) (hk : k < es.length), chain ix tm es → lastT rows = tm → es[k].idx = ix + 1 + (k : Int) ∧ lastT (rows ++ laidAt (es.take k) 0) ≤ es[k].term
  | [], _, _, _, k, hk, _, _ => by simp at hk
  | e :: es, rows, ix, tm, 0, _, hc, hl => by
    obtain ⟨h1, h2, -⟩ := hc
    simp only [List.getElem_cons_zero, List.take_zero, laidAt, List.append_nil, hl]
    exact ⟨by rw [h1]; simp, h2⟩
  | e :: es, rows, ix, tm, k + 1, hk, hc, hl => by
    obtain ⟨h1, h2, h3⟩ := hc
    have hk' : k < es.length := by simpa using hk
    obtain ⟨i1, i2⟩ := lastT_laid es (rows ++ [⟨e, 0⟩]) (ix + 1) e.term k hk' h3 (lastT_snoc _ _)
    simp only [List.getElem_cons_succ]
    refine ⟨by rw [i1]; push_cast; omega, ?_⟩
    refine Int.le_trans (Int.le_of_eq ?_) i2
    rw [List.take_succ_cons]
    simp only [laidAt, lastT, Hd.last]
    rw [show rows ++ (⟨e, 0⟩ : Rw) :: laidAt (es.take k) (0 + ((sgRow e).length : Int)) = rows ++ [⟨e, 0⟩] ++ laidAt (es.take k) (0 + ((sgRow e).length : Int)) by simp]
    have two : ∀ (p q : Int) (l : List Rw), (match ((l ++ laidAt (es.take k) p).getLast?) with | none => ((0 : Int), (0 : Int)) | some r => (r.e.idx, r.e.term)).2 = (match ((l ++ laidAt (es.take k) q).getLast?) with | none => ((0 : Int), (0 : Int)) | some r => (r.e.idx, r.e.term)).2 := fun p q l => by
      rcases (es.take k).eq_nil_or_concat with h | ⟨bs, a, h⟩
      · rw [h]; simp [laidAt]
      · rw [h, List.concat_eq_append, laidAt_snoc, laidAt_snoc, ← List.append_assoc, ← List.append_assoc, List.getLast?_concat, List.getLast?_concat]
    exact two _ _ _

theorem rowsB_drop (es : List En) (k : Nat) (hk : k < es.length) : (rowsB es).drop (rowsB (es.take k)).length = sgRow es[k] ++ rowsB (es.drop (k + 1)) := by
  have h : rowsB es = rowsB (es.take k) ++ (sgRow es[k] ++ rowsB (es.drop (k + 1))) := by
    unfold rowsB
    conv => lhs; rw [← List.take_append_drop k es, List.drop_eq_getElem_cons hk, List.flatMap_append, List.flatMap_cons]
  conv => lhs; rw [h]
  rw [List.drop_left]

theorem rowsB_succ (es : List En) (k : Nat) (hk : k < es.length) : rowsB (es.take (k + 1)) = rowsB (es.take k) ++ sgRow es[k] := by
  unfold rowsB
  rw [List.take_succ_eq_append_getElem hk, List.flatMap_append]
  simp
end Go.Proofs.YtamgjlegcegmeaaGreatDoor.M

/- Part: SegGp0. -/
namespace Go.Proofs.YtamgjlegcegmeaaGreatDoor.M
open Go.RowKit
open D (Fl Dk)

/-- The rows, and the files, of segments: each with its first Index. -/
def laidG (gs : List (Int × List En)) : List Rw := gs.flatMap fun g => laidAt g.2 0
def fiG (g : Int × List En) : Fi := ⟨g.1, g.1 - 1 + (g.2.length : Int), ((rowsB g.2).length : Int), 0, true⟩

/-- A disk of whole segments, one behind another. -/
structure GsOk (gs : List (Int × List En)) (d : Dk) : Prop where
  fs : d.fs.map (fun f => (f.nm, f.b)) = gs.map fun g => (sgName g.1, rowsB g.2)
  ch : ∀ k (h : k < gs.length), chain (gs[k].1 - 1) (lastT (laidG (gs.take k))) gs[k].2
  nx : ∀ k (h : k + 1 < gs.length), gs[k + 1].1 = gs[k].1 + (gs[k].2.length : Int)
  bd : ∀ g ∈ gs, (1 ≤ g.1 ∧ g.1 < 10000000000) ∧ (rowsB g.2).length ≤ 1000000 ∧ g.2.length ≤ 100000
  ok : ∀ g ∈ gs, ∀ e ∈ g.2, (1 ≤ e.idx ∧ e.idx < 10000000000) ∧ (1 ≤ e.term ∧ e.term < 10000000000) ∧ (0 ≤ e.kind ∧ e.kind ≤ 255) ∧ e.b.length ≤ 1048576
  few : (laidG gs).length ≤ 500000 ∧ gs.length ≤ 4096
  rise : D.Rising d.fs
  used : D.used d.fs ≤ 140737488355328

theorem laidG_take (gs : List (Int × List En)) (k : Nat) (h : k < gs.length) : laidG (gs.take (k + 1)) = laidG (gs.take k) ++ laidAt gs[k].2 0 := by
  unfold laidG
  rw [List.take_succ_eq_append_getElem h, List.flatMap_append]
  simp

theorem laidG_le (gs : List (Int × List En)) (k : Nat) : (laidG (gs.take k)).length ≤ (laidG gs).length := by
  unfold laidG
  conv => rhs; rw [← List.take_append_drop k gs, List.flatMap_append, List.length_append]
  omega

/-- One behind another, none of them empty, from behind an Index on. -/
def Grp : Int → List (Int × List En) → Prop
  | _, [] => True
  | ix, g :: gs => g.1 = ix + 1 ∧ g.2 ≠ [] ∧ Grp (ix + (g.2.length : Int)) gs

/-- All entries of segments. -/
def entG (gs : List (Int × List En)) : List En := gs.flatMap (·.2)

theorem laidAt_map : ∀ (es : List En) (p : Int), (laidAt es p).map (·.e) = es
  | [], _ => rfl
  | e :: es, p => by simp only [laidAt, List.map_cons, laidAt_map es]

theorem laidG_map (gs : List (Int × List En)) : (laidG gs).map (·.e) = entG gs := by
  unfold laidG entG
  induction gs with
  | nil => rfl
  | cons g gs ih => rw [List.flatMap_cons, List.map_append, laidAt_map, ih, List.flatMap_cons]

theorem laidG_snoc (gs : List (Int × List En)) (g : Int × List En) : laidG (gs ++ [g]) = laidG gs ++ laidAt g.2 0 := by
  unfold laidG
  rw [List.flatMap_append]
  simp

theorem Grp.snoc {gs : List (Int × List En)} {g : Int × List En} : ∀ {ix : Int}, Grp ix gs → g.1 = ix + ((entG gs).length : Int) + 1 → g.2 ≠ [] → Grp ix (gs ++ [g]) := by
  induction gs with
  | nil =>
    intro ix _ h1 h2
    refine ⟨by rw [h1]; simp [entG], h2, trivial⟩
  | cons q gs ih =>
    intro ix h h1 h2
    obtain ⟨a1, a2, a3⟩ := h
    refine ⟨a1, a2, ih a3 ?_ h2⟩
    rw [h1]
    simp only [entG, List.flatMap_cons, List.length_append]
    push_cast
    omega

theorem Grp.last {gs : List (Int × List En)} {g : Int × List En} : ∀ {ix : Int}, Grp ix (gs ++ [g]) → Grp ix gs ∧ g.1 = ix + ((entG gs).length : Int) + 1 ∧ g.2 ≠ [] := by
  induction gs with
  | nil =>
    intro ix h
    obtain ⟨a1, a2, -⟩ := h
    exact ⟨trivial, by rw [a1]; simp [entG], a2⟩
  | cons q gs ih =>
    intro ix h
    obtain ⟨a1, a2, a3⟩ := h
    obtain ⟨b1, b2, b3⟩ := ih a3
    refine ⟨⟨a1, a2, b1⟩, ?_, b3⟩
    rw [b2]
    simp only [entG, List.flatMap_cons, List.length_append]
    push_cast
    omega

theorem Grp.mem {gs : List (Int × List En)} : ∀ {ix : Int}, Grp ix gs → ∀ g ∈ gs, ix + 1 ≤ g.1 ∧ g.1 + (g.2.length : Int) ≤ ix + ((entG gs).length : Int) + 1 ∧ g.2 ≠ [] := by
  induction gs with
  | nil => intro ix _ g hg; cases hg
  | cons q gs ih =>
    intro ix h g hg
    obtain ⟨a1, a2, a3⟩ := h
    have hl : ((entG (q :: gs)).length : Int) = (q.2.length : Int) + ((entG gs).length : Int) := by
      simp only [entG, List.flatMap_cons, List.length_append]
      push_cast
      rfl
    rcases List.mem_cons.1 hg with rfl | hg
    · exact ⟨by omega, by omega, a2⟩
    · obtain ⟨b1, b2, b3⟩ := ih a3 g hg
      exact ⟨by omega, by omega, b3⟩

theorem Grp.next {gs : List (Int × List En)} : ∀ {ix : Int}, Grp ix gs → ∀ k (h : k + 1 < gs.length), gs[k + 1].1 = gs[k].1 + (gs[k].2.length : Int) := by
  induction gs with
  | nil => intro ix _ k h; simp at h
  | cons q gs ih =>
    intro ix h k hk
    obtain ⟨a1, a2, a3⟩ := h
    cases k with
    | zero =>
      cases gs with
      | nil => simp at hk
      | cons r gs =>
        obtain ⟨b1, -, -⟩ := a3
        simp only [List.getElem_cons_zero, List.getElem_cons_succ]
        omega
    | succ k => exact ih a3 k (by simpa using hk)

theorem Grp.len {gs : List (Int × List En)} : ∀ {ix : Int}, Grp ix gs → gs.length ≤ (entG gs).length := by
  induction gs with
  | nil => intro ix _; simp
  | cons q gs ih =>
    intro ix h
    obtain ⟨a1, a2, a3⟩ := h
    have := ih a3
    have h2 : 0 < q.2.length := List.length_pos_iff.2 a2
    simp only [entG, List.flatMap_cons, List.length_append, List.length_cons] at this ⊢
    omega
end Go.Proofs.YtamgjlegcegmeaaGreatDoor.M

/- Part: SegCut. -/
namespace Go.Proofs.YtamgjlegcegmeaaGreatDoor.M
open Go.RowKit Go.Maps
open D (Fl Dk)

def fromIx (ix : Int) (f : Fi) : Bool := decide (ix ≤ f.first)

set_option maxRecDepth 20000 in
theorem cutFrom1_any (f : Fi) (ix : Int) (bi : Nat) (W : World) (hb : W.heap[bi]? = some (.cells #[.int .i64 ix] 3)) :
    Calls Tryz.prog 39 #[fiAgg f, .pointer (some ⟨bi, 0, none⟩)] W fun e w' => e = .returned (.bool (fromIx ix f)) ∧ Below W.heap.size W w' := by
  obtain ⟨c0, f0, z0⟩ := block1 hb
  unfold fromIx
  obtain ⟨a, b, c, d, l⟩ := f
  unfold fiAgg
  simp only
  go_enter Tryz.func39, Tryz.ntmps39
  go_wp2_with fail
  go_ret
  exact ⟨rfl, below_alloc _ _⟩

set_option maxRecDepth 20000 in
set_option maxHeartbeats 6400000 in
theorem cutFrom_ok (K : Nat → Obj → Prop) (w wa : World) (X Xd : Nat → Prop) (g gd : Nat) (least : Int) (h : Hd) (d : Dk) (l : LS K w X Xd g gd least h d wa) (ho : HdOk h) (ix : Int) (hix : h.mi < ix ∧ ix ≤ h.last.1) (hsq : h.Seq) (hP : Hid (Pow10 w)) (h1 : Hd) (d1 : Dk) (hst : stripE (fromIx ix) h.files h.files.length h d = (0, h1, d1))
    (hmi : h1.mi = h.mi) (hrl : h1.rows.length ≤ 1000000) (hfl : h1.files.length ≤ 1000000) (hend : ∀ f, h1.files.getLast? = some f → f.last < ix) :
    Calls Tryz.prog 15 #[.pointer (some ⟨g, 0, none⟩), .int .i64 ix] wa fun e w' => e = .returned (.int .i64 0) ∧ LS K w X Xd g gd least (forgetE h1 ix) d1 w' := by
  have hli := last_in ho
  obtain ⟨W1, hW1⟩ : ∃ W1, W1 = wa.alloc (.cells #[.int .i64 ix] 3) := ⟨_, rfl⟩
  obtain ⟨bi, hbi⟩ : ∃ b, b = wa.heap.size := ⟨_, rfl⟩
  have hb1 : Below wa.heap.size wa W1 := by rw [hW1]; exact below_alloc _ _
  have hx1 : W1.heap[bi]? = some (.cells #[.int .i64 ix] 3) := by rw [hW1, hbi]; exact heap_new _ _ _ rfl
  have hnX : ¬ X bi ∧ ¬ Xd bi := by rw [hbi]; exact ⟨fun hx => Nat.lt_irrefl _ (l.lt hx), fun hx => Nat.lt_irrefl _ (l.ds.lt _ hx)⟩
  have hl1 := l.next hb1
  have HL0 := Lib.hid l
  have HL1 := Lib.hid hl1
  have HKB : Hid (W1.heap[bi]? = some (.cells #[.int .i64 ix] 3) ∧ ¬ X bi ∧ ¬ Xd bi) := Lib.hid ⟨hx1, hnX⟩
  have HPL : Hid (∀ W2, Below W1.heap.size W1 W2 → Calls Tryz.prog 34 #[.pointer (some ⟨g, 0, none⟩), .int .i64 ix] W2 fun e w' => e = .returned (.tuple #[.int .i64 (ix - h.mi - 1), .bool true]) ∧ Below W1.heap.size W1 w') := Lib.hid fun W2 hb2 => by
    have := (hl1.next hb2).lg.place_any ho ix
    rw [if_neg (by omega)] at this
    exact this.mono fun e w' hp => ⟨hp.1, hb2.trans (hp.2.mono hb2.size)⟩
  have HST : Hid (∀ W2, Below W1.heap.size W1 W2 → Calls Tryz.prog 38 #[.pointer (some ⟨g, 0, none⟩), .func (.func 39) #[] #[.pointer (some ⟨bi, 0, none⟩)]] W2 fun e w' => e = .returned (.int .i64 0) ∧ LS (fun k o => W1.heap[k]? = some o ∧ ¬ X k ∧ ¬ Xd k) w X Xd g gd least h1 d1 w') := Lib.hid fun W2 hb2 => by
    have := strip_ok _ w W2 X Xd g gd least h d (hl1.keep.next hb2) (fromIx ix) 39 #[.pointer (some ⟨bi, 0, none⟩)] (enters_of Tryz.func39 (by kernel_rfl) rfl)
      (fun f hf W hk => cutFrom1_any f ix bi W (hk _ _ ⟨hx1, hnX⟩)) ho.rl ho.fl ho.m.1 (fun f hf => (ho.fb f hf).1) hP (by rw [hst])
    rw [hst] at this
    exact this
  have HFG : Hid (∀ W2, LS (fun k o => W1.heap[k]? = some o ∧ ¬ X k ∧ ¬ Xd k) w X Xd g gd least h1 d1 W2 → Calls Tryz.prog 41 #[.pointer (some ⟨g, 0, none⟩), .int .i64 ix] W2 fun e w' => e = .returned (.tuple #[]) ∧ LS (fun k o => W1.heap[k]? = some o ∧ ¬ X k ∧ ¬ Xd k) w X Xd g gd least (forgetE h1 ix) d1 w') := Lib.hid fun W2 hl2 =>
    (forget_any _ w W2 X Xd g gd least h1 d1 hl2 hrl (by rw [hmi]; exact ho.m.1) ix (by have := ho.m.1; omega)).mono fun e w' hp => ⟨hp.1, hp.2.1⟩
  have HEND := Lib.hid hend
  have HFL := Lib.hid hfl
  obtain ⟨⟨vr, vf, rv, la⟩, lz⟩ := hl1.lg
  have hrv : rv.length = h.rows.length := by rw [← List.length_map (f := (·.1)), la.rows]
  have hpl : ((ix - h.mi - 1).toNat : Nat) < rv.length := by
    rw [hrv]
    have := hsq.last
    omega
  obtain ⟨pi, hpi⟩ : ∃ pi, pi = (ix - h.mi - 1).toNat := ⟨_, rfl⟩
  rw [← hpi] at hpl
  have hpe : ix - h.mi - 1 = (pi : Int) := by omega
  rw [hpe] at HPL
  obtain ⟨ga, rc, hvr, hgz, -, -, hcs, -⟩ := row5_elem (f := rwV) (fun _ => rfl) la.rrow pi hpl
  subst hvr
  have s4 := hcs 4 (by omega)
  simp only [rwV, List.getElem?_cons_zero, List.getElem?_cons_succ] at s4
  obtain ⟨c0, c1, c2, c3, c4, c5, c6, cz⟩ := seven_cells la.box
  obtain ⟨b0, bf, bz⟩ := block1 hx1
  obtain ⟨po, hpo⟩ : ∃ po, po = rv[pi].1.pos := ⟨_, rfl⟩
  rw [← hpo] at s4
  obtain ⟨nr, hnr⟩ : ∃ nr, nr = rv.length := ⟨_, rfl⟩
  rw [← hnr] at c2 hpl
  have keep : ∀ {q o : Nat} {v : Value}, q < W1.heap.size → W1.cell? ⟨q, o, none⟩ = some v → ∀ w', Below W1.heap.size W1 w' → w'.cell? ⟨q, o, none⟩ = some v := fun {q o v} hq hv w' hb => (World.cell?_of_block (a := ⟨q, o, none⟩) (hb.block q hq)).trans hv
  have r0 := keep bz b0
  have r1 := keep cz c0
  have HR := Lib.hid (And.intro (keep cz c2) (keep hgz s4))
  have hGZ := And.intro cz hgz
  have HGZ := Lib.hid hGZ
  have q0 : decide (ix ≤ h.mi) = false := decide_eq_false (by omega)
  have hp1 : (pi : Int) < (nr : Int) := by omega
  have HW1 := Lib.hid hW1
  have HBI := Lib.hid hbi
  obtain ⟨mi, hmi'⟩ : ∃ mi, mi = h.mi := ⟨_, rfl⟩
  rw [← hmi'] at r1 q0
  have hS : Below W1.heap.size W1 W1.drew := (Below.refl _ _).drew
  clear l hl1 la lz hb1 hx1 hnX hW1 hbi hst hmi hrl hfl hend hrv hpi hpe hcs c1 c2 c3 c4 c5 c6 s4 hpo hnr keep hGZ hmi' hli hix hsq hP bf
  go_enter Tryz.func15, Tryz.ntmps15
  go_wp2_with fail
  rw [← HW1.out]
  rw [← HBI.out]
  refine wp_region_held (S := fun w' => Below W1.heap.size W1 w') (by kernel_rfl) ?_
  refine H_take (i := 0) (v := ?_) rfl (by as_aux_lemma => kernel_rfl) (by as_aux_lemma => kernel_rfl) (by as_aux_lemma => kernel_rfl) (fun _ _ _ h => h) (by rfl) hS ?_ ?_
  rotate_left
  · intro w' hw'; go_simp; with_reducible rfl
  go_simp
  refine H_take (i := 1) (v := ?_) rfl (by as_aux_lemma => kernel_rfl) (by as_aux_lemma => kernel_rfl) (by as_aux_lemma => kernel_rfl) (fun _ _ _ h => h) (by rfl) hS ?_ ?_
  rotate_left
  · intro w' hw'; go_simp; with_reducible rfl
  go_simp
  refine H_take (i := 2) (v := ?_) rfl (by as_aux_lemma => kernel_rfl) (by as_aux_lemma => kernel_rfl) (by as_aux_lemma => kernel_rfl) (fun _ _ _ h => h) (by rfl) hS ?_ ?_
  rotate_left
  · intro w' hw'; go_simp; with_reducible rfl
  go_simp
  refine H_take (i := 3) (v := ?_) rfl (by as_aux_lemma => kernel_rfl) (by as_aux_lemma => kernel_rfl) (by as_aux_lemma => kernel_rfl) (fun _ _ _ h => h) (by rfl) hS ?_ ?_
  rotate_left
  · intro w' hw'; go_simp; with_reducible rfl
  go_simp
  refine H_take (i := 4) (v := ?_) rfl (by as_aux_lemma => kernel_rfl) (by as_aux_lemma => kernel_rfl) (by as_aux_lemma => kernel_rfl) (fun _ _ _ h => h) (by rfl) hS ?_ ?_
  rotate_left
  · intro w' hw'; go_simp; with_reducible rfl
  go_simp
  refine H_take (i := 5) (v := ?_) rfl (by as_aux_lemma => kernel_rfl) (by as_aux_lemma => kernel_rfl) (by as_aux_lemma => kernel_rfl) (fun _ _ _ h => h) (by rfl) hS ?_ ?_
  rotate_left
  · intro w' hw'; go_simp; with_reducible rfl
  go_simp
  refine H_take (i := 6) (v := ?_) rfl (by as_aux_lemma => kernel_rfl) (by as_aux_lemma => kernel_rfl) (by as_aux_lemma => kernel_rfl) (fun _ _ _ h => h) (by rfl) hS ?_ ?_
  rotate_left
  · intro w' hw'; go_simp; with_reducible rfl
  go_simp
  refine H_take (i := 7) (v := ?_) rfl (by as_aux_lemma => kernel_rfl) (by as_aux_lemma => kernel_rfl) (by as_aux_lemma => kernel_rfl) (fun _ _ _ h => h) (by rfl) hS ?_ ?_
  rotate_left
  · intro w' hw'; go_simp; with_reducible rfl
  go_simp
  refine wpAnyH_done (by as_aux_lemma => kernel_rfl) ?_ _
  clear hS
  go_wp2_with fail
  have hS : Below W1.heap.size W1 W1.drew.drew := (Below.refl _ _).drew.drew
  refine wp_region_held (S := fun w' => Below W1.heap.size W1 w') (by kernel_rfl) ?_
  refine H_take (i := 0) (v := ?_) rfl (by as_aux_lemma => kernel_rfl) (by as_aux_lemma => kernel_rfl) (by as_aux_lemma => kernel_rfl) (fun _ _ _ h => h) (by rfl) hS ?_ ?_
  rotate_left
  · intro w' hw'; go_simp; with_reducible rfl
  go_simp
  refine H_take (i := 1) (v := ?_) rfl (by as_aux_lemma => kernel_rfl) (by as_aux_lemma => kernel_rfl) (by as_aux_lemma => kernel_rfl) (fun _ _ _ h => h) (by rfl) hS ?_ ?_
  rotate_left
  · intro w' hw'; go_simp; with_reducible rfl
  go_simp
  refine H_take (i := 2) (v := ?_) rfl (by as_aux_lemma => kernel_rfl) (by as_aux_lemma => kernel_rfl) (by as_aux_lemma => kernel_rfl) (fun _ _ _ h => h) (by rfl) hS ?_ ?_
  rotate_left
  · intro w' hw'; go_simp; with_reducible rfl
  go_simp
  refine H_take (i := 3) (v := ?_) rfl (by as_aux_lemma => kernel_rfl) (by as_aux_lemma => kernel_rfl) (by as_aux_lemma => kernel_rfl) (fun _ _ _ h => h) (by rfl) hS ?_ ?_
  rotate_left
  · intro w' hw'; go_simp; with_reducible rfl
  go_simp
  refine H_one (i := 4) (by as_aux_lemma => kernel_rfl) rfl (by rfl) ?_
  go_simp
  refine (HPL.out W1.drew.drew hS).mono ?_
  rintro e w2 ⟨rfl, hS2⟩
  refine ⟨hS2, ?_⟩
  go_simp
  refine H_take (i := 5) (v := ?_) rfl (by as_aux_lemma => kernel_rfl) (by as_aux_lemma => kernel_rfl) (by as_aux_lemma => kernel_rfl) (fun _ _ _ h => h) (by rfl) hS2 ?_ ?_
  rotate_left
  · intro w' hw'; go_simp; with_reducible rfl
  go_simp
  refine H_take (i := 6) (v := ?_) rfl (by as_aux_lemma => kernel_rfl) (by as_aux_lemma => kernel_rfl) (by as_aux_lemma => kernel_rfl) (fun _ _ _ h => h) (by rfl) hS2 ?_ ?_
  rotate_left
  · intro w' hw'; go_simp; with_reducible rfl
  go_simp
  refine H_take (i := 7) (v := ?_) rfl (by as_aux_lemma => kernel_rfl) (by as_aux_lemma => kernel_rfl) (by as_aux_lemma => kernel_rfl) (fun _ _ _ h => h) (by rfl) hS2 ?_ ?_
  rotate_left
  · intro w' hw'; go_simp; with_reducible rfl
  go_simp
  refine H_take (i := 8) (v := ?_) rfl (by as_aux_lemma => kernel_rfl) (by as_aux_lemma => kernel_rfl) (by as_aux_lemma => kernel_rfl) (fun _ _ _ h => h) (by rfl) hS2 ?_ ?_
  rotate_left
  · intro w' hw'; go_simp; with_reducible rfl
  go_simp
  refine H_take (i := 9) (v := ?_) rfl (by as_aux_lemma => kernel_rfl) (by as_aux_lemma => kernel_rfl) (by as_aux_lemma => kernel_rfl) (fun _ _ _ h => h) (by rfl) hS2 ?_ ?_
  rotate_left
  · intro w' hw'; go_simp; with_reducible rfl
  go_simp
  refine wpAnyH_done (by as_aux_lemma => kernel_rfl) ?_ _
  have c2 := HR.out.1 w2 hS2
  have s4 := HR.out.2 w2 hS2
  have cz := Nat.lt_of_lt_of_le HGZ.out.1 hS2.size
  have sz := Nat.lt_of_lt_of_le HGZ.out.2 hS2.size
  have HS2 := Lib.hid hS2
  clear r0 r1 hS hS2
  go_wp2_with fail
  refine (HST.out w2 HS2.out).mono ?_
  rintro e w4 ⟨rfl, hl4⟩
  have HL4 := Lib.hid hl4
  have HBI4 := Lib.hid (hl4.kp bi _ HKB.out).1
  obtain ⟨⟨vr4, vf4, rv4, la4⟩, lz4⟩ := hl4.lg
  clear c0 b0 bz c2 s4 cz sz hp1 q0 hl4 lz4 hpl hgz
  obtain ⟨b0, bf, bz⟩ := block1 HBI4.out
  clear bf
  rcases Nat.eq_zero_or_pos h1.files.length with hn0 | hnp
  · obtain ⟨fa, fc, rfl, -, -⟩ := row5_slice la4.frow
    obtain ⟨-, -, -, c3, -, -, -, cz⟩ := seven_cells la4.box
    rw [hn0] at c3
    have r0 : ∀ w', Below w4.heap.size w4 w' → w'.cell? ⟨bi, 0, none⟩ = some (.int .i64 ix) := fun w' hb => (World.cell?_of_block (a := ⟨bi, 0, none⟩) (hb.block bi bz)).trans b0
    have hS : Below w4.heap.size w4 w4.drew := (Below.refl _ _).drew
    clear la4 hn0
    go_wp2_with fail
    clear c3 cz b0 bz
    refine wp_region_held (S := fun w' => Below w4.heap.size w4 w') (by kernel_rfl) ?_
    refine H_take (i := 0) (v := ?_) rfl (by as_aux_lemma => kernel_rfl) (by as_aux_lemma => kernel_rfl) (by as_aux_lemma => kernel_rfl) (fun _ _ _ h => h) (by rfl) hS ?_ ?_
    rotate_left
    · intro w' hw'; go_simp; with_reducible rfl
    go_simp
    refine H_take (i := 1) (v := ?_) rfl (by as_aux_lemma => kernel_rfl) (by as_aux_lemma => kernel_rfl) (by as_aux_lemma => kernel_rfl) (fun _ _ _ h => h) (by rfl) hS ?_ ?_
    rotate_left
    · intro w' hw'; go_simp; with_reducible rfl
    go_simp
    refine H_take (i := 2) (v := ?_) rfl (by as_aux_lemma => kernel_rfl) (by as_aux_lemma => kernel_rfl) (by as_aux_lemma => kernel_rfl) (fun _ _ _ h => h) (by rfl) hS ?_ ?_
    rotate_left
    · intro w' hw'; go_simp; with_reducible rfl
    go_simp
    refine H_skip (i := 3) rfl (by as_aux_lemma => kernel_rfl) (by as_aux_lemma => kernel_rfl) (by as_aux_lemma => kernel_rfl) (fun _ _ _ h => h) (by rfl) hS ?_
    go_simp
    refine H_skip (i := 4) rfl (by as_aux_lemma => kernel_rfl) (by as_aux_lemma => kernel_rfl) (by as_aux_lemma => kernel_rfl) (fun _ _ _ h => h) (by rfl) hS ?_
    go_simp
    refine H_skip (i := 5) rfl (by as_aux_lemma => kernel_rfl) (by as_aux_lemma => kernel_rfl) (by as_aux_lemma => kernel_rfl) (fun _ _ _ h => h) (by rfl) hS ?_
    go_simp
    refine H_skip (i := 6) rfl (by as_aux_lemma => kernel_rfl) (by as_aux_lemma => kernel_rfl) (by as_aux_lemma => kernel_rfl) (fun _ _ _ h => h) (by rfl) hS ?_
    go_simp
    refine H_skip (i := 7) rfl (by as_aux_lemma => kernel_rfl) (by as_aux_lemma => kernel_rfl) (by as_aux_lemma => kernel_rfl) (fun _ _ _ h => h) (by rfl) hS ?_
    go_simp
    refine H_skip (i := 8) rfl (by as_aux_lemma => kernel_rfl) (by as_aux_lemma => kernel_rfl) (by as_aux_lemma => kernel_rfl) (fun _ _ _ h => h) (by rfl) hS ?_
    go_simp
    refine H_skip (i := 9) rfl (by as_aux_lemma => kernel_rfl) (by as_aux_lemma => kernel_rfl) (by as_aux_lemma => kernel_rfl) (fun _ _ _ h => h) (by rfl) hS ?_
    go_simp
    refine H_skip (i := 10) rfl (by as_aux_lemma => kernel_rfl) (by as_aux_lemma => kernel_rfl) (by as_aux_lemma => kernel_rfl) (fun _ _ _ h => h) (by rfl) hS ?_
    go_simp
    refine H_skip (i := 11) rfl (by as_aux_lemma => kernel_rfl) (by as_aux_lemma => kernel_rfl) (by as_aux_lemma => kernel_rfl) (fun _ _ _ h => h) (by rfl) hS ?_
    go_simp
    refine H_skip (i := 12) rfl (by as_aux_lemma => kernel_rfl) (by as_aux_lemma => kernel_rfl) (by as_aux_lemma => kernel_rfl) (fun _ _ _ h => h) (by rfl) hS ?_
    go_simp
    refine H_skip (i := 13) rfl (by as_aux_lemma => kernel_rfl) (by as_aux_lemma => kernel_rfl) (by as_aux_lemma => kernel_rfl) (fun _ _ _ h => h) (by rfl) hS ?_
    go_simp
    refine H_skip (i := 14) rfl (by as_aux_lemma => kernel_rfl) (by as_aux_lemma => kernel_rfl) (by as_aux_lemma => kernel_rfl) (fun _ _ _ h => h) (by rfl) hS ?_
    go_simp
    refine H_take (i := 15) (v := ?_) rfl (by as_aux_lemma => kernel_rfl) (by as_aux_lemma => kernel_rfl) (by as_aux_lemma => kernel_rfl) (fun _ _ _ h => h) (by rfl) hS ?_ ?_
    rotate_left
    · intro w' hw'; go_simp; with_reducible rfl
    go_simp
    refine wpAnyH_done (by as_aux_lemma => kernel_rfl) ?_ _
    clear r0 hS
    go_wp2_with fail
    have r1 : ∀ w' : World, w'.heap[bi]? = some (.cells #[.int .i64 ix] 3) → w'.cell? ⟨bi, 0, none⟩ = some (.int .i64 ix) := fun w' h => cell_of_row _ _ 0 _ _ _ h
    have hS : w4.drew.drew.heap[bi]? = some (.cells #[.int .i64 ix] 3) := HBI4.out
    refine wp_region_held (S := fun w' : World => w'.heap[bi]? = some (.cells #[.int .i64 ix] 3)) (by kernel_rfl) ?_
    refine H_take (i := 0) (v := ?_) rfl (by as_aux_lemma => kernel_rfl) (by as_aux_lemma => kernel_rfl) (by as_aux_lemma => kernel_rfl) (fun _ _ _ h => h) (by rfl) hS ?_ ?_
    rotate_left
    · intro w' hw'; go_simp; with_reducible rfl
    go_simp
    refine H_take (i := 1) (v := ?_) rfl (by as_aux_lemma => kernel_rfl) (by as_aux_lemma => kernel_rfl) (by as_aux_lemma => kernel_rfl) (fun _ _ _ h => h) (by rfl) hS ?_ ?_
    rotate_left
    · intro w' hw'; go_simp; with_reducible rfl
    go_simp
    refine H_take (i := 2) (v := ?_) rfl (by as_aux_lemma => kernel_rfl) (by as_aux_lemma => kernel_rfl) (by as_aux_lemma => kernel_rfl) (fun _ _ _ h => h) (by rfl) hS ?_ ?_
    rotate_left
    · intro w' hw'; go_simp; with_reducible rfl
    go_simp
    refine H_take (i := 3) (v := ?_) rfl (by as_aux_lemma => kernel_rfl) (by as_aux_lemma => kernel_rfl) (by as_aux_lemma => kernel_rfl) (fun _ _ _ h => h) (by rfl) hS ?_ ?_
    rotate_left
    · intro w' hw'; go_simp; with_reducible rfl
    go_simp
    refine H_one (i := 4) (by as_aux_lemma => kernel_rfl) rfl (by rfl) ?_
    go_simp
    refine (HFG.out w4.drew.drew (HL4.out.next (Below.refl _ w4).drew.drew)).mono ?_
    rintro e w5 ⟨rfl, hl5⟩
    have HL5 := Lib.hid (HL1.out.stay hl5)
    have hS5 := (hl5.kp bi _ HKB.out).1
    refine ⟨hS5, ?_⟩
    clear hl5
    go_simp
    refine wpAnyH_done (by as_aux_lemma => kernel_rfl) ?_ _
    clear r1 hS hS5
    go_wp2_with fail
    go_ret
    exact ⟨rfl, HL5.out⟩
  · obtain ⟨n', hn'⟩ : ∃ n', h1.files.length = n' + 1 := ⟨h1.files.length - 1, by omega⟩
    obtain ⟨ga4, fc, hvf, hgz4, -, -, hcs4, -⟩ := row5_elem (f := fiV) (fun _ => rfl) la4.frow n' (by omega)
    subst hvf
    have hlast := HEND.out (h1.files[n']'(by omega)) (by simp [List.getLast?_eq_getElem?, hn'])
    have s1 := hcs4 1 (by omega)
    obtain ⟨f, hf⟩ : ∃ f, f = h1.files[n']'(by omega) := ⟨_, rfl⟩
    rw [← hf] at hlast s1
    simp only [fiV, List.getElem?_cons_zero, List.getElem?_cons_succ] at s1
    obtain ⟨fl, hfl⟩ : ∃ fl, fl = f.last := ⟨_, rfl⟩
    rw [← hfl] at hlast s1
    obtain ⟨-, -, -, c3, -, -, -, cz⟩ := seven_cells la4.box
    obtain ⟨nf, hnf⟩ : ∃ nf, nf = h1.files.length := ⟨_, rfl⟩
    rw [← hnf] at c3
    have hx : (nf : Int) - 1 = (n' : Int) := by omega
    have hx2 : (n' : Int) < (nf : Int) := by omega
    have hx3 : decide ((0 : Int) < (nf : Int)) = true := decide_eq_true (by omega)
    have hx5 : decide (0 < nf) = true := decide_eq_true (by omega)
    have hx6 : 0 < nf := by omega
    have hx4 : (nf : Int) ≤ 1000000 := by have := HFL.out; omega
    have hx7 : IntKind.i64.wrap (n' : Int) = (n' : Int) := IntWalk.i64_in _ (by omega)
    have q1 : decide (ix ≤ fl) = false := decide_eq_false (by omega)
    have keep : ∀ {q o : Nat} {v : Value}, q < w4.heap.size → w4.cell? ⟨q, o, none⟩ = some v → ∀ w', Below w4.heap.size w4 w' → w'.cell? ⟨q, o, none⟩ = some v := fun {q o v} hq hv w' hb => (World.cell?_of_block (a := ⟨q, o, none⟩) (hb.block q hq)).trans hv
    have r0 := keep bz b0
    have r2 := keep cz c3
    have r3 := keep hgz4 s1
    have hS : Below w4.heap.size w4 w4.drew := (Below.refl _ _).drew
    clear la4 hnp hn' hcs4 hf hfl hnf keep s1 hlast b0
    go_wp2_with fail
    clear c3 cz bz hgz4
    refine wp_region_held (S := fun w' => Below w4.heap.size w4 w') (by kernel_rfl) ?_
    refine H_take (i := 0) (v := ?_) rfl (by as_aux_lemma => kernel_rfl) (by as_aux_lemma => kernel_rfl) (by as_aux_lemma => kernel_rfl) (fun _ _ _ h => h) (by rfl) hS ?_ ?_
    rotate_left
    · intro w' hw'; go_simp; with_reducible rfl
    go_simp
    refine H_take (i := 1) (v := ?_) rfl (by as_aux_lemma => kernel_rfl) (by as_aux_lemma => kernel_rfl) (by as_aux_lemma => kernel_rfl) (fun _ _ _ h => h) (by rfl) hS ?_ ?_
    rotate_left
    · intro w' hw'; go_simp; with_reducible rfl
    go_simp
    refine H_take (i := 2) (v := ?_) rfl (by as_aux_lemma => kernel_rfl) (by as_aux_lemma => kernel_rfl) (by as_aux_lemma => kernel_rfl) (fun _ _ _ h => h) (by rfl) hS ?_ ?_
    rotate_left
    · intro w' hw'; go_simp; with_reducible rfl
    go_simp
    refine H_take (i := 3) (v := ?_) rfl (by as_aux_lemma => kernel_rfl) (by as_aux_lemma => kernel_rfl) (by as_aux_lemma => kernel_rfl) (fun _ _ _ h => h) (by rfl) hS ?_ ?_
    rotate_left
    · intro w' hw'; go_simp; with_reducible rfl
    go_simp
    refine H_take (i := 4) (v := ?_) rfl (by as_aux_lemma => kernel_rfl) (by as_aux_lemma => kernel_rfl) (by as_aux_lemma => kernel_rfl) (fun _ _ _ h => h) (by rfl) hS ?_ ?_
    rotate_left
    · intro w' hw'; go_simp; with_reducible rfl
    go_simp
    refine H_take (i := 5) (v := ?_) rfl (by as_aux_lemma => kernel_rfl) (by as_aux_lemma => kernel_rfl) (by as_aux_lemma => kernel_rfl) (fun _ _ _ h => h) (by rfl) hS ?_ ?_
    rotate_left
    · intro w' hw'; go_simp; with_reducible rfl
    go_simp
    refine H_take (i := 6) (v := ?_) rfl (by as_aux_lemma => kernel_rfl) (by as_aux_lemma => kernel_rfl) (by as_aux_lemma => kernel_rfl) (fun _ _ _ h => h) (by rfl) hS ?_ ?_
    rotate_left
    · intro w' hw'; go_simp; with_reducible rfl
    go_simp
    refine H_take (i := 7) (v := ?_) rfl (by as_aux_lemma => kernel_rfl) (by as_aux_lemma => kernel_rfl) (by as_aux_lemma => kernel_rfl) (fun _ _ _ h => h) (by rfl) hS ?_ ?_
    rotate_left
    · intro w' hw'; go_simp; with_reducible rfl
    go_simp
    refine H_take (i := 8) (v := ?_) rfl (by as_aux_lemma => kernel_rfl) (by as_aux_lemma => kernel_rfl) (by as_aux_lemma => kernel_rfl) (fun _ _ _ h => h) (by rfl) hS ?_ ?_
    rotate_left
    · intro w' hw'; go_simp; with_reducible rfl
    go_simp
    refine H_take (i := 9) (v := ?_) rfl (by as_aux_lemma => kernel_rfl) (by as_aux_lemma => kernel_rfl) (by as_aux_lemma => kernel_rfl) (fun _ _ _ h => h) (by rfl) hS ?_ ?_
    rotate_left
    · intro w' hw'; go_simp; with_reducible rfl
    go_simp
    refine H_take (i := 10) (v := ?_) rfl (by as_aux_lemma => kernel_rfl) (by as_aux_lemma => kernel_rfl) (by as_aux_lemma => kernel_rfl) (fun _ _ _ h => h) (by rfl) hS ?_ ?_
    rotate_left
    · intro w' hw'; go_simp; with_reducible rfl
    go_simp
    refine H_take (i := 11) (v := ?_) rfl (by as_aux_lemma => kernel_rfl) (by as_aux_lemma => kernel_rfl) (by as_aux_lemma => kernel_rfl) (fun _ _ _ h => h) (by rfl) hS ?_ ?_
    rotate_left
    · intro w' hw'; go_simp; with_reducible rfl
    go_simp
    refine H_take (i := 12) (v := ?_) rfl (by as_aux_lemma => kernel_rfl) (by as_aux_lemma => kernel_rfl) (by as_aux_lemma => kernel_rfl) (fun _ _ _ h => h) (by rfl) hS ?_ ?_
    rotate_left
    · intro w' hw'; go_simp; with_reducible rfl
    go_simp
    refine H_take (i := 13) (v := ?_) rfl (by as_aux_lemma => kernel_rfl) (by as_aux_lemma => kernel_rfl) (by as_aux_lemma => kernel_rfl) (fun _ _ _ h => h) (by rfl) hS ?_ ?_
    rotate_left
    · intro w' hw'; go_simp; with_reducible rfl
    go_simp
    refine H_take (i := 14) (v := ?_) rfl (by as_aux_lemma => kernel_rfl) (by as_aux_lemma => kernel_rfl) (by as_aux_lemma => kernel_rfl) (fun _ _ _ h => h) (by rfl) hS ?_ ?_
    rotate_left
    · intro w' hw'; go_simp; with_reducible rfl
    go_simp
    refine H_take (i := 15) (v := ?_) rfl (by as_aux_lemma => kernel_rfl) (by as_aux_lemma => kernel_rfl) (by as_aux_lemma => kernel_rfl) (fun _ _ _ h => h) (by rfl) hS ?_ ?_
    rotate_left
    · intro w' hw'; go_simp; with_reducible rfl
    go_simp
    refine wpAnyH_done (by as_aux_lemma => kernel_rfl) ?_ _
    clear r0 hS
    go_wp2_with fail
    have r1 : ∀ w' : World, w'.heap[bi]? = some (.cells #[.int .i64 ix] 3) → w'.cell? ⟨bi, 0, none⟩ = some (.int .i64 ix) := fun w' h => cell_of_row _ _ 0 _ _ _ h
    have hS : w4.drew.drew.heap[bi]? = some (.cells #[.int .i64 ix] 3) := HBI4.out
    refine wp_region_held (S := fun w' : World => w'.heap[bi]? = some (.cells #[.int .i64 ix] 3)) (by kernel_rfl) ?_
    refine H_take (i := 0) (v := ?_) rfl (by as_aux_lemma => kernel_rfl) (by as_aux_lemma => kernel_rfl) (by as_aux_lemma => kernel_rfl) (fun _ _ _ h => h) (by rfl) hS ?_ ?_
    rotate_left
    · intro w' hw'; go_simp; with_reducible rfl
    go_simp
    refine H_take (i := 1) (v := ?_) rfl (by as_aux_lemma => kernel_rfl) (by as_aux_lemma => kernel_rfl) (by as_aux_lemma => kernel_rfl) (fun _ _ _ h => h) (by rfl) hS ?_ ?_
    rotate_left
    · intro w' hw'; go_simp; with_reducible rfl
    go_simp
    refine H_take (i := 2) (v := ?_) rfl (by as_aux_lemma => kernel_rfl) (by as_aux_lemma => kernel_rfl) (by as_aux_lemma => kernel_rfl) (fun _ _ _ h => h) (by rfl) hS ?_ ?_
    rotate_left
    · intro w' hw'; go_simp; with_reducible rfl
    go_simp
    refine H_take (i := 3) (v := ?_) rfl (by as_aux_lemma => kernel_rfl) (by as_aux_lemma => kernel_rfl) (by as_aux_lemma => kernel_rfl) (fun _ _ _ h => h) (by rfl) hS ?_ ?_
    rotate_left
    · intro w' hw'; go_simp; with_reducible rfl
    go_simp
    refine H_one (i := 4) (by as_aux_lemma => kernel_rfl) rfl (by rfl) ?_
    go_simp
    refine (HFG.out w4.drew.drew (HL4.out.next (Below.refl _ w4).drew.drew)).mono ?_
    rintro e w5 ⟨rfl, hl5⟩
    have HL5 := Lib.hid (HL1.out.stay hl5)
    have hS5 := (hl5.kp bi _ HKB.out).1
    refine ⟨hS5, ?_⟩
    clear hl5
    go_simp
    refine wpAnyH_done (by as_aux_lemma => kernel_rfl) ?_ _
    clear r1 hS hS5
    go_wp2_with fail
    go_ret
    exact ⟨rfl, HL5.out⟩
end Go.Proofs.YtamgjlegcegmeaaGreatDoor.M

/- Part: SegCt1. -/
namespace Go.Proofs.YtamgjlegcegmeaaGreatDoor.M
open Go.RowKit Go.Maps
open D (Fl Dk)

/-- What cutting a file leaves. -/
def cutE (h : Hd) (d : Dk) (i : Nat) (f : Fi) (size last : Int) : Int × Hd × Dk :=
  ((D.cut d (sgName f.first) size).1, if (D.cut d (sgName f.first) size).1 = 0 then { h with files := h.files.set i { f with size := size, torn := 0, last := last } } else h, (D.cut d (sgName f.first) size).2)

theorem fiCells_cut (fs : List Fi) (i : Nat) (h : i < fs.length) (size last : Int) :
    (((fiCells fs).set (i * 5 + 2) (.int .i64 size)).set (i * 5 + 3) (.int .i64 0)).set (i * 5 + 1) (.int .i64 last) = fiCells (fs.set i { fs[i] with size := size, torn := 0, last := last }) := by
  have e1 : fs = fs.take i ++ (fs[i] :: fs.drop (i + 1)) := by rw [← List.drop_eq_getElem_cons h, List.take_append_drop]
  have hl : (fiCells (fs.take i)).length = i * 5 := by rw [fiCells_length, List.length_take]; congr 1; omega
  have e2 : fs.set i { fs[i] with size := size, torn := 0, last := last } = fs.take i ++ ({ fs[i] with size := size, torn := 0, last := last } :: fs.drop (i + 1)) := by
    rw [List.set_eq_take_append_cons_drop, if_pos h]
  rw [e2, fiCells_app]
  have e3 : fiCells fs = fiCells (fs.take i) ++ fiCells (fs[i] :: fs.drop (i + 1)) := by rw [← fiCells_app, ← e1]
  rw [e3]
  generalize fiCells (fs.take i) = A at *
  rw [List.set_append_right _ _ (by omega), List.set_append_right _ _ (by omega), List.set_append_right _ _ (by omega), hl, show i * 5 + 2 - i * 5 = 2 by omega, show i * 5 + 3 - i * 5 = 3 by omega, show i * 5 + 1 - i * 5 = 1 by omega]
  rfl

set_option maxRecDepth 20000 in
set_option maxHeartbeats 3200000 in
theorem segCut_any (K : Nat → Obj → Prop) (w wa : World) (X Xd : Nat → Prop) (g gd : Nat) (least : Int) (h : Hd) (d : Dk) (l : LS K w X Xd g gd least h d wa) (i : Nat) (f : Fi) (hf : h.files[i]? = some f) (hl : h.files.length ≤ 1000000) (hb : 0 ≤ f.first ∧ f.first < 10000000000) (size last : Int) (hs : -9223372036854775808 ≤ size ∧ size ≤ 9223372036854775807) (hP : Hid (Pow10 w)) :
    Calls Tryz.prog 40 #[.pointer (some ⟨g, 0, none⟩), .int .i64 (i : Int), .int .i64 size, .int .i64 last] wa fun e w' => e = .returned (.int .i64 (cutE h d i f size last).1) ∧ ∃ Xd', LS K w X Xd' g gd least (cutE h d i f size last).2.1 (cutE h d i f size last).2.2 w' := by
  have HL := Lib.hid l
  obtain ⟨⟨vr, vf, rv, la⟩, lz⟩ := l.lg
  obtain ⟨c0, c1, c2, c3, c4, c5, c6, cz⟩ := seven_cells la.box
  obtain ⟨hil, hfi⟩ := List.getElem?_eq_some_iff.1 hf
  obtain ⟨ga, fc, hvf, hgz, hlc, hcm, hcs, -⟩ := row5_elem (f := fiV) (fun _ => rfl) la.frow i hil
  have s0 := hcs 0 (by omega)
  rw [hfi] at s0
  simp only [fiV, List.getElem?_cons_zero, Nat.add_zero] at s0
  have hX : ∀ k, X k → ¬ Xd k := l.dis
  have hgX := la.fg
  have hga := la.ff ga (by rw [hvf]; rfl)
  have keep : ∀ {q o : Nat} {v : Value}, X q → wa.cell? ⟨q, o, none⟩ = some v → ∀ w', Only Xd wa w' → w'.cell? ⟨q, o, none⟩ = some v := fun {q o v} hq hv w' ho => (World.cell?_of_block (a := ⟨q, o, none⟩) (ho.block q (lz q hq) (hX q hq))).trans hv
  have HLA := Lib.hid la
  have r0 := keep hgX c5
  have r2 := keep hga.1 s0
  have hS : Only Xd wa wa.drew := (Only.refl _ _).drawn
  have HDR := Lib.hid ((l.next (Below.refl _ wa).drew))
  have HLZ := Lib.hid lz
  have HX := Lib.hid hX
  obtain ⟨nf, hnf⟩ : ∃ nf, nf = h.files.length := ⟨_, rfl⟩
  rw [hvf, ← hnf] at c3
  have q1 : (i : Int) < (nf : Int) := by omega
  have HNF := Lib.hid hnf
  have HVF := Lib.hid hvf
  have HBD := Lib.hid hb
  have HIL := Lib.hid hil
  have HFI : Hid (∀ _ : i < h.files.length, h.files[i] = f) := Lib.hid fun _ => hfi
  have HSZ := Lib.hid hs
  have hgz' := lz _ hga.1
  obtain ⟨ff, hff⟩ : ∃ ff, ff = f.first := ⟨_, rfl⟩
  rw [← hff] at r2
  have HFF := Lib.hid hff
  clear l la lz c0 c1 c2 c4 c5 c6 hil hlc hcm hcs hfi s0 hX hgX hga keep hnf hvf hf hl hff hb hs
  go_enter Tryz.func40, Tryz.ntmps40
  go_wp2_with fail
  clear c3 cz
  refine wp_region_held (S := fun w' => Only Xd wa w') (by kernel_rfl) ?_
  refine H_take (i := 0) (v := ?_) rfl (by as_aux_lemma => kernel_rfl) (by as_aux_lemma => kernel_rfl) (by as_aux_lemma => kernel_rfl) (fun _ _ _ h => h) (by rfl) hS ?_ ?_
  rotate_left
  · intro w' hw'; go_simp; with_reducible rfl
  go_simp
  refine H_take (i := 1) (v := ?_) rfl (by as_aux_lemma => kernel_rfl) (by as_aux_lemma => kernel_rfl) (by as_aux_lemma => kernel_rfl) (fun _ _ _ h => h) (by rfl) hS ?_ ?_
  rotate_left
  · intro w' hw'; go_simp; with_reducible rfl
  go_simp
  refine H_take (i := 2) (v := ?_) rfl (by as_aux_lemma => kernel_rfl) (by as_aux_lemma => kernel_rfl) (by as_aux_lemma => kernel_rfl) (fun _ _ _ h => h) (by rfl) hS ?_ ?_
  rotate_left
  · intro w' hw'; go_simp; with_reducible rfl
  go_simp
  refine H_take (i := 3) (v := ?_) rfl (by as_aux_lemma => kernel_rfl) (by as_aux_lemma => kernel_rfl) (by as_aux_lemma => kernel_rfl) (fun _ _ _ h => h) (by rfl) hS ?_ ?_
  rotate_left
  · intro w' hw'; go_simp; with_reducible rfl
  go_simp
  refine H_take (i := 4) (v := ?_) rfl (by as_aux_lemma => kernel_rfl) (by as_aux_lemma => kernel_rfl) (by as_aux_lemma => kernel_rfl) (fun _ _ _ h => h) (by rfl) hS ?_ ?_
  rotate_left
  · intro w' hw'; go_simp; with_reducible rfl
  go_simp
  refine H_take (i := 5) (v := ?_) rfl (by as_aux_lemma => kernel_rfl) (by as_aux_lemma => kernel_rfl) (by as_aux_lemma => kernel_rfl) (fun _ _ _ h => h) (by rfl) hS ?_ ?_
  rotate_left
  · intro w' hw'; go_simp; with_reducible rfl
  go_simp
  refine H_take (i := 6) (v := ?_) rfl (by as_aux_lemma => kernel_rfl) (by as_aux_lemma => kernel_rfl) (by as_aux_lemma => kernel_rfl) (fun _ _ _ h => h) (by rfl) hS ?_ ?_
  rotate_left
  · intro w' hw'; go_simp; with_reducible rfl
  go_simp
  refine H_take (i := 7) (v := ?_) rfl (by as_aux_lemma => kernel_rfl) (by as_aux_lemma => kernel_rfl) (by as_aux_lemma => kernel_rfl) (fun _ _ _ h => h) (by rfl) hS ?_ ?_
  rotate_left
  · intro w' hw'; go_simp; with_reducible rfl
  go_simp
  refine H_take (i := 9) (v := ?_) rfl (by as_aux_lemma => kernel_rfl) (by as_aux_lemma => kernel_rfl) (by as_aux_lemma => kernel_rfl) (fun _ _ _ h => h) (by rfl) hS ?_ ?_
  rotate_left
  · intro w' hw'; go_simp; with_reducible rfl
  go_simp
  refine H_one (i := 8) (by as_aux_lemma => kernel_rfl) rfl (by rfl) ?_
  go_simp
  refine (nameOf_any ff wa.drew (by rw [HFF.out]; exact HBD.out.1) (by rw [HFF.out]; exact HBD.out.2) (Lib.hid (hP.out.next HDR.out.below))).mono ?_
  rintro e w1 ⟨rfl, hb1⟩
  have HB1 : Hid (Below wa.heap.size wa w1) := Lib.hid ((Below.refl _ wa).drew.trans hb1)
  have hS1 : Only Xd wa w1 := (Only.refl _ _).next HB1.out
  refine ⟨hS1, ?_⟩
  clear hb1
  go_simp
  have HL1 := Lib.hid (HL.out.next HB1.out)
  refine H_one (i := 10) (by as_aux_lemma => kernel_rfl) rfl (by rfl) ?_
  go_simp
  refine (DCut HL1.out.ds (sgName ff) size (by
    unfold sgName
    have := dg_length 10 ff.toNat
    simp [ByteArray.size]
    omega) HSZ.out.1 HSZ.out.2).mono ?_
  intro e w3 hp3
  have hS3 : Only Xd wa w3 := hS1.then hp3.2.1
  obtain ⟨rfl, Xd', hl3⟩ := HL1.out.disk hp3
  have HL3 := Lib.hid hl3
  have HO3 := Lib.hid hS3
  refine ⟨hS3, ?_⟩
  clear hp3 hl3
  go_simp
  refine H_take (i := 11) (v := ?_) rfl (by as_aux_lemma => kernel_rfl) (by as_aux_lemma => kernel_rfl) (by as_aux_lemma => kernel_rfl) (fun _ _ _ h => h) (by rfl) hS3 ?_ ?_
  rotate_left
  · intro w' hw'; go_simp; with_reducible rfl
  go_simp
  refine wpAnyH_done (by as_aux_lemma => kernel_rfl) ?_ _
  clear r0 r2 hS hS1 hS3
  have HLA3 : Hid (LgAt w3 X g gd least h vr vf rv) := Lib.hid (HLA.out.same (fun _ h => h) fun k hk => HO3.out.block k (HLZ.out k hk) (HX.out k hk))
  obtain ⟨rr, hrr⟩ : ∃ rr, rr = (D.cut d (sgName ff) size).1 := ⟨_, rfl⟩
  rw [← hrr]
  have HRR := Lib.hid hrr
  clear hrr
  by_cases hr : rr = 0
  · subst hr
    have hrow := HLA3.out.frow
    rw [HVF.out, ← HNF.out] at hrow
    obtain ⟨t1, t2⟩ := hrow.stored (i * 5 + 2) (.int .i64 size)
    obtain ⟨t3, t4⟩ := t1.stored (i * 5 + 3) (.int .i64 0)
    obtain ⟨t5, t6⟩ := t3.stored (i * 5 + 1) (.int .i64 last)
    obtain ⟨W5, hW5⟩ : ∃ W5, W5 = (((w3.setCell ⟨ga, i * 5 + 2, none⟩ (.int .i64 size)).setCell ⟨ga, i * 5 + 3, none⟩ (.int .i64 0)).setCell ⟨ga, i * 5 + 1, none⟩ (.int .i64 last)) := ⟨_, rfl⟩
    rw [← hW5] at t5 t6
    have hcell : ∀ j, j < 5 → ∃ u, w3.cell? ⟨ga, i * 5 + j, none⟩ = some u := fun j hj => by
      have hlen : (fiCells h.files).length = h.files.length * 5 := fiCells_length _
      have := HIL.out
      exact ⟨_, (hrow.cellAt (i * 5 + j) (by omega)).trans (List.getElem?_eq_getElem (by omega))⟩
    obtain ⟨u1, d1⟩ := hcell 1 (by omega)
    obtain ⟨u2, d2⟩ := hcell 2 (by omega)
    obtain ⟨u3, d3⟩ := hcell 3 (by omega)
    have z1 := hrow.frozenAt (i * 5 + 1)
    have z2 := hrow.frozenAt (i * 5 + 2)
    have z3 := hrow.frozenAt (i * 5 + 3)
    have gz3 : ga < w3.heap.size := Nat.lt_of_lt_of_le hgz HO3.out.size
    have HON : Hid (Only (fun k => vf.ownBlock = some k) w3 W5) := Lib.hid (by
      rw [HVF.out]
      exact ((only_grown t2).then (only_grown t4)).then (only_grown t6))
    have HROW : Hid (W5.ownsRow 0 75 5 vf (h.files.set i { f with size := size, torn := 0, last := last }).length (fiCells (h.files.set i { f with size := size, torn := 0, last := last }))) := Lib.hid (by
      have h1 := fiCells_cut h.files i HIL.out size last
      rw [HFI.out HIL.out] at h1
      rw [← h1, List.length_set, HVF.out, ← HNF.out]
      exact t5)
    have HBX : Hid (W5.heap[g]? = _) := Lib.hid ((HON.out.block g (lt_of_heap HLA3.out.box) fun e => (HLA.out.ff g e).2 rfl).trans HLA3.out.box)
    have HW5 := Lib.hid hW5
    clear hrow t1 t2 t3 t4 t5 t6 hW5 hcell
    go_wp2_with fail
    rw [← HW5.out]
    go_ret
    unfold cutE
    rw [show D.cut d (sgName f.first) size = D.cut d (sgName ff) size by rw [HFF.out], ← HRR.out, if_pos rfl]
    exact ⟨rfl, Xd', HL3.out.setFiles HLA3.out HON.out HROW.out rfl (Only.refl _ _) HBX.out⟩
  · have q0 : (rr == 0) = false := beq_eq_false_iff_ne.2 hr
    have HR := Lib.hid hr
    clear hr
    go_wp2_with fail
    go_ret
    unfold cutE
    rw [show D.cut d (sgName f.first) size = D.cut d (sgName ff) size by rw [HFF.out], ← HRR.out, if_neg HR.out]
    exact ⟨rfl, Xd', HL3.out⟩
end Go.Proofs.YtamgjlegcegmeaaGreatDoor.M

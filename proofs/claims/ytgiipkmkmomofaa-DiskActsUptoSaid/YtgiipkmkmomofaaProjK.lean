/- The program's disk: Append as it is called; Sync. -/
import Derived.Test.YtgiipkmkmomofaaProjJ
namespace Go.Proofs.Ytgiipkmkmomofaa.M
open Go.RowKit Go.Maps
open D (Fl Dk)

theorem Good.tick {d : Dk} (h : Good d) : Good d.tick := by
  obtain ⟨⟨h1, h2, h3, h4, h5⟩, h6, h7⟩ := h
  refine ⟨⟨by rw [tick_fs]; exact h1, Nat.le_trans (tick_calls d) h2, ?_, by rw [tick_room]; exact h4, by rw [tick_room]; exact h5⟩, by rw [tick_fs]; exact h6, by rw [tick_fs]; exact h7⟩
  unfold D.Dk.free at h3 ⊢
  rw [tick_room, tick_fs]; exact h3

theorem PPost.wrap {w W w' : World} {X : Nat → Prop} {gd : Nat} {r : Int × Dk} {e : Ending} (h1 : Only X w W) (h : PPost W X gd r e w') : PPost w X gd r e w' := by
  obtain ⟨a, b, c⟩ := h
  exact PPost.of h1 a b c

/-- One file turned in place. -/
theorem file_done {W W2 : World} {X : Nat → Prop} {gd gm : Nat} {d : Dk} {fr : Int} {M : DataW Nat} {E : ByteArray → Nat × Value} {f : Fl} (h : PDAt W X gd d fr gm M E) (hX : ∀ k, X k → k < W.heap.size) (hr : D.Rising d.fs) (hf : f ∈ d.fs)
    (g : Fl → Fl) (hg : ∀ f, (g f).nm = f.nm) {v' : Value} (hat : FileAt W2 (E f.nm).1 v' (g f)) (hv : v'.ownBlock = (E f.nm).2.ownBlock) (ho : Only (fun k => k = (E f.nm).1) W W2) :
    Only X W W2 ∧ ∃ E', PDAt W2 X gd { d with fs := d.fs.modify (D.find d.fs f.nm) g } fr gm M E' := by
  have ht : D.isThere d.fs f.nm = true := D.isThere_mem.2 ⟨f, hf, rfl⟩
  refine ⟨ho.mono fun k hk => hk ▸ (h.foot.2.2 f hf).1, fun t => if t = f.nm then ((E f.nm).1, v') else E t, ?_⟩
  exact h.turned hr ht (d' := { d with fs := d.fs.modify (D.find d.fs f.nm) g }) (v' := v') (f' := g f) (w' := W2) (Y := X) hX (fun k hk => hk) rfl (D.names_modify _ _ _ hg)
    (fun g2 hg2 => by
      rcases D.mem_modify hr hg2 with h1 | ⟨f0, h1, h2, h3⟩
      · exact .inl h1
      · have := hr.uniq h1 hf h2
        subst this
        exact .inr h3)
    (hg f) hat (fun k hk => .inl (by rw [← hv]; exact hk)) fun k hk h1 _ => ho.block k hk h1

theorem en41 : ∀ (args : Array Value) (w : World), (callFunc 41 args).run Try.prog w = .ok (.enter 41 args) w := fun _ _ => rfl
theorem en44 : ∀ (args : Array Value) (w : World), (callFunc 44 args).run Try.prog w = .ok (.enter 44 args) w := fun _ _ => rfl
theorem en48 : ∀ (args : Array Value) (w : World), (callFunc 48 args).run Try.prog w = .ok (.enter 48 args) w := fun _ _ => rfl
theorem en49 : ∀ (args : Array Value) (w : World), (callFunc 49 args).run Try.prog w = .ok (.enter 49 args) w := fun _ _ => rfl
theorem en51 : ∀ (args : Array Value) (w : World), (callFunc 51 args).run Try.prog w = .ok (.enter 51 args) w := fun _ _ => rfl

theorem cell_new1 (w : World) (v : Value) (t : TypeId) {g : Nat} (hg : g = w.heap.size) : (w.alloc (.cells #[v] t)).cell? ⟨g, 0, none⟩ = some v := by
  subst hg
  have h := cell_of_row _ w.heap.size 0 _ t _ (heap_alloc_new w (.cells #[v] t))
  exact h

theorem cell_past {w : World} {g j : Nat} {v : Value} (o : Obj) (h : w.cell? ⟨g, j, none⟩ = some v) (hg : g < w.heap.size) : (w.alloc o).cell? ⟨g, j, none⟩ = some v := by rw [World.cell?_alloc_past _ _ _ hg]; exact h

set_option maxRecDepth 20000 in
set_option maxHeartbeats 1600000 in
theorem PAppend_any (d : Dk) (X : Nat → Prop) (gd : Nat) (s : ByteArray) (bs : List (List UInt8)) (F : Nat → Prop) (vb : Value) (w : World) (hd : PDskIn w X gd d) (hg : Good d) (hs : s.size ≤ 9223372036854775807)
    (hv : RepBl w F bs vb) (hF : ∀ k, F k → k < w.heap.size ∧ ¬ X k) (hu : D.used d.fs + bs.flatten.length ≤ 1099511627776) :
    Calls Try.prog 20 #[.pointer (some ⟨gd, 0, none⟩), .string s, vb] w (PPost w X gd (D.append d s bs)) := by
  obtain ⟨na, nc, rfl, hnl⟩ := hv.slice
  have HV := Lib.hid hv
  have HF := Lib.hid hF
  have HD := Lib.hid hd
  have HG := Lib.hid hg
  clear hv hF hd hg
  obtain ⟨W, hW⟩ : ∃ W, W = ((w.alloc (.cells #[.pointer (some ⟨gd, 0, none⟩)] 27)).alloc (.cells #[.string s] 9)).alloc (.cells #[.slice na bs.length nc] 36) := ⟨_, rfl⟩
  have HO : Hid (Only X w W) := Lib.hid (by rw [hW]; exact (((Only.refl X w).alloc _).alloc _).alloc _)
  have HB : Hid (Below w.heap.size w W) := Lib.hid (by rw [hW]; exact (((Below.refl _ w).alloc (by omega) _).alloc (by simp) _).alloc (by simp; omega) _)
  have HSZ : Hid (W.heap.size = w.heap.size + 3) := Lib.hid (by rw [hW]; simp)
  have HC : Hid (W.cell? ⟨w.heap.size, 0, none⟩ = some (.pointer (some ⟨gd, 0, none⟩)) ∧ W.cell? ⟨w.heap.size + 1, 0, none⟩ = some (.string s) ∧ W.cell? ⟨w.heap.size + 1 + 1, 0, none⟩ = some (.slice na bs.length nc)) := Lib.hid (by
    rw [hW]
    refine ⟨cell_past _ (cell_past _ (cell_new1 _ _ _ rfl) (by simp)) (by simp; omega), cell_past _ (cell_new1 _ _ _ (by simp)) (by simp), cell_new1 _ _ _ (by simp)⟩)
  have hwk := Work_any 41 #[.pointer (some ⟨w.heap.size + 1, 0, none⟩), .pointer (some ⟨w.heap.size, 0, none⟩), .pointer (some ⟨w.heap.size + 1 + 1, 0, none⟩)] en41 d X gd (appendB d.tick s bs) W
    (HD.out.1.same (fun _ h => h) fun k hk => HB.out.block k (HD.out.2 k hk)) HG.out.1.2.1 (fun w1 ho hz hd1 hst => by
      have hnx : ∀ k, w.heap.size ≤ k → ¬ X k := fun k hk hx => by have := HD.out.2 k hx; omega
      have hsz := HSZ.out
      exact AppendC_any d.tick X gd _ _ _ s bs F _ w1 ⟨hd1, fun k hk => by have := HD.out.2 k hk; omega⟩ HG.out.tick hs
        (HV.out.same (fun _ h => h) fun k hk => (ho.block k (by have := (HF.out k hk).1; omega) (HF.out k hk).2).trans (HB.out.block k (HF.out k hk).1)) (fun k hk => ⟨by have := (HF.out k hk).1; omega, (HF.out k hk).2⟩) (by rw [tick_fs]; exact hu)
        ((cell_only ho (by omega) (hnx _ (by omega)) 0).trans HC.out.2.1) ((cell_only ho (by omega) (hnx _ (by omega)) 0).trans HC.out.1) ((cell_only ho (by omega) (hnx _ (by omega)) 0).trans HC.out.2.2)
        ⟨⟨by omega, hnx _ (by omega)⟩, ⟨by omega, hnx _ (by omega)⟩, by omega, hnx _ (by omega)⟩)
  rw [← append_eq] at hwk
  have HWK := Lib.hid hwk
  have HWE := Lib.hid hW
  clear hwk hW
  go_enter Try.func20, Try.ntmps20
  go_wp2_with fail
  rw [← HWE.out]
  refine HWK.out.mono ?_
  intro e w' hp
  have HP := Lib.hid (hp.wrap HO.out)
  obtain ⟨rfl, -, -⟩ := hp
  go_wp2_with fail
  go_ret
  exact HP.out
end Go.Proofs.Ytgiipkmkmomofaa.M

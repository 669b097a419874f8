/- The document's examples, as law 3's statements begin with them. -/
import Derived.Test.YtgiipkmkmomofaaDiskLaw
import Derived.Test.YtgiipkmkmomofaaProjD
import Derived.Lib.SlBytesConst
namespace Go.Proofs.Ytgiipkmkmomofaa.M
open Go.RowKit Go.Maps
open D (Fl Dk)

/-- A disk's call is told bytes of a new block. -/
theorem DS.one {w wr : World} {X : Nat → Prop} {gd : Nat} {d : Dk} (h : DS w X gd d wr) (L : List UInt8) (n : Nat) (hn : n = L.length) (hl : L.length ≤ 9223372036854775807) (fr : Nat × Nat) (t1 t2 : TypeId) {W : World}
    (hW : W = (wr.alloc (.cells (L.map byteV).toArray t1 fr)).alloc (.cells #[.slice (some ⟨wr.heap.size, 0, none⟩) n n] t2)) :
    DS w X gd d W ∧ RepBl W (fun b => b = wr.heap.size ∨ b = wr.heap.size + 1) [L] (.slice (some ⟨wr.heap.size + 1, 0, none⟩) 1 1) ∧ ∀ k, (k = wr.heap.size ∨ k = wr.heap.size + 1) → k < W.heap.size ∧ ¬ X k := by
  subst hW hn
  refine ⟨(h.alloc _).alloc _, RepBl.one (RepB.new (L := L) rfl hl) (by simp) (fun k hk => by rw [hk]; simp), fun k hk => ⟨by rcases hk with hk | hk <;> (rw [hk]; simp <;> omega), fun hx => by
    have := h.lt k hx
    omega⟩⟩

/-- .. of two. -/
theorem DS.two {w wr : World} {X : Nat → Prop} {gd : Nat} {d : Dk} (h : DS w X gd d wr) (L1 L2 : List UInt8) (n1 n2 : Nat) (hn1 : n1 = L1.length) (hn2 : n2 = L2.length) (hl1 : L1.length ≤ 9223372036854775807) (hl2 : L2.length ≤ 9223372036854775807) (fr1 fr2 : Nat × Nat) (t1 t2 t3 : TypeId) {W : World}
    (hW : W = ((wr.alloc (.cells (L1.map byteV).toArray t1 fr1)).alloc (.cells (L2.map byteV).toArray t2 fr2)).alloc (.cells #[.slice (some ⟨wr.heap.size, 0, none⟩) n1 n1, .slice (some ⟨wr.heap.size + 1, 0, none⟩) n2 n2] t3)) :
    DS w X gd d W ∧ RepBl W (fun b => (b = wr.heap.size ∨ b = wr.heap.size + 1) ∨ b = wr.heap.size + 1 + 1) [L1, L2] (.slice (some ⟨wr.heap.size + 1 + 1, 0, none⟩) 2 2) ∧ ∀ k, ((k = wr.heap.size ∨ k = wr.heap.size + 1) ∨ k = wr.heap.size + 1 + 1) → k < W.heap.size ∧ ¬ X k := by
  subst hW hn1 hn2
  refine ⟨((h.alloc _).alloc _).alloc _, ?_, fun k hk => ⟨by rcases hk with (hk | hk) | hk <;> (rw [hk]; simp <;> omega), fun hx => by
    have := h.lt k hx
    omega⟩⟩
  refine RepBl.new (w := (wr.alloc (.cells (L1.map byteV).toArray t1 fr1)).alloc (.cells (L2.map byteV).toArray t2 fr2)) (ls := [L1, L2]) (us := [.slice (some ⟨wr.heap.size, 0, none⟩) L1.length L1.length, .slice (some ⟨wr.heap.size + 1, 0, none⟩) L2.length L2.length]) (by simp) rfl (by simp) (fun k hk => by rcases hk with hk | hk <;> (rw [hk]; simp <;> omega)) fun i h1 h2 => ?_
  match i, h1 with
  | 0, _ => exact (RepB.new (w := wr) (L := L1) (t := t1) (fr := fr1) rfl hl1).same (fun k hk => .inl hk) fun k hk => Below.heap_alloc _ _ _ (by rw [hk]; simp)
  | 1, _ => exact (RepB.new (w := wr.alloc (.cells (L1.map byteV).toArray t1 fr1)) (L := L2) (t := t2) (fr := fr2) (by simp) hl2).same (fun k hk => .inr hk) fun _ _ => rfl

theorem DS.names {w wr : World} {X : Nat → Prop} {gd : Nat} {d : Dk} (h : DS w X gd d wr) (ls : List ByteArray) (n : Nat) (hn : n = ls.length) (hl : ls.length ≤ 9223372036854775807) (t : TypeId) {W : World} (hW : W = wr.alloc (.cells (ls.map Value.string).toArray t)) :
    DS w X gd d W ∧ RepSl W (fun b => b = wr.heap.size) ls (.slice (some ⟨wr.heap.size, 0, none⟩) n n) ∧ ∀ k, k = wr.heap.size → k < W.heap.size ∧ ¬ X k := by
  subst hW
  exact ⟨h.alloc _, RepSl.new rfl hn hl, fun k hk => ⟨by rw [hk]; simp, fun hx => by have := h.lt k hx; omega⟩⟩

theorem DS.ints {w wr : World} {X : Nat → Prop} {gd : Nat} {d : Dk} (h : DS w X gd d wr) (ls : List Int) (n : Nat) (hn : n = ls.length) (hl : ls.length ≤ 9223372036854775807) (hb : ∀ i ∈ ls, -9223372036854775808 ≤ i ∧ i ≤ 9223372036854775807) (t : TypeId) {W : World} (hW : W = wr.alloc (.cells (ls.map (Value.int .i64)).toArray t)) :
    DS w X gd d W ∧ RepI W (fun b => b = wr.heap.size) ls (.slice (some ⟨wr.heap.size, 0, none⟩) n n) ∧ ∀ k, k = wr.heap.size → k < W.heap.size ∧ ¬ X k := by
  subst hW
  exact ⟨h.alloc _, RepI.new rfl hn hl hb, fun k hk => ⟨by rw [hk]; simp, fun hx => by have := h.lt k hx; omega⟩⟩

theorem x1_used : D.used x1.fs = 0 := rfl

set_option maxRecDepth 40000 in
set_option maxHeartbeats 6400000 in
theorem awake3_any (w : World) : Calls Try.prog 9 #[] w fun e w' => e = .returned (.bool true) ∧ Below w.heap.size w w' := by
  have kc := fun (w : World) (C : Array Value) (n c : Nat) => Lib.run_convert_bytes_const (P := Try.prog) w 41 5 C n c Try.underlying41 Try.underlying5
  have kc2 : ∀ (w : World) (o : Obj) (C : Array Value) (n c : Nat), (convert 41 41 (.slice (some ⟨w.heap.size + 1, 0, none⟩) n c)).run Try.prog ((w.alloc o).alloc (.cells C 5)) = .ok (.slice (some ⟨w.heap.size + 1, 0, none⟩) n c) ((w.alloc o).alloc (.cells C 5 (C.size, C.size + 1))) := fun w o C n c => by
    have h := kc (w.alloc o) C n c
    rw [show (w.alloc o).heap.size = w.heap.size + 1 by simp] at h
    exact h
  go_enter Try.func9, Try.ntmps9
  go_wp2_with fail
  refine (New_any 10 w (by omega)).mono ?_
  rintro e w1 ⟨rfl, hb1, hz1, hd1⟩
  have H1 : Hid (DS w _ _ x1 w1) := Lib.hid ⟨hb1, fun k hk => hk.1, ⟨hd1, fun k hk => by omega⟩, fresh_well (by omega) (by omega)⟩
  obtain ⟨gd, hgd⟩ : ∃ gd, gd = w.heap.size + 1 := ⟨_, rfl⟩
  obtain ⟨X1, hX1⟩ : ∃ X1 : Nat → Prop, X1 = fun k => w.heap.size ≤ k ∧ k < w.heap.size + 2 := ⟨_, rfl⟩
  rw [← hgd, ← hX1] at H1
  rw [← hgd]
  clear hb1 hz1 hd1 hgd hX1
  go_wp2_with fail
  obtain ⟨a1, a2, a3⟩ := H1.out.one [120, 121, 122] 3 rfl (by decide) (3, 4) 5 41 rfl
  refine (DAppend a1 nmA [[120, 121, 122]] _ _ (by decide) a2 a3 (by rw [x1_used]; decide)).mono ?_
  rintro e w2 ⟨rfl, -, X2, -, h2⟩
  rw [ex_2.1]
  have H2 : Hid (DS w X2 gd x2 w2) := Lib.hid h2
  clear a1 a2 a3 h2
  go_wp2_with fail
  obtain ⟨a1, a2, a3⟩ := H2.out.names [nmA] 1 rfl (by decide) 9 rfl
  refine (DSync a1 [nmA] _ _ (by decide) a2 a3).mono ?_
  rintro e w3 ⟨rfl, -, X3, -, h3⟩
  rw [ex_3.1]
  have H3 : Hid (DS w X3 gd x3 w3) := Lib.hid h3
  clear a1 a2 a3 h3
  go_wp2_with fail
  obtain ⟨a1, a2, a3⟩ := H3.out.two [117] [118, 119] 1 2 rfl rfl (by decide) (by decide) (1, 2) (2, 3) 5 5 41 rfl
  refine (DAppend a1 nmA [[117], [118, 119]] _ _ (by decide) a2 a3 (by rw [ex_3.2]; decide)).mono ?_
  rintro e w4 ⟨rfl, -, X4, -, h4⟩
  rw [ex_4.1]
  have H4 : Hid (DS w X4 gd x4 w4) := Lib.hid h4
  clear a1 a2 a3 h4
  go_wp2_with fail
  obtain ⟨a1, a2, a3⟩ := H4.out.one [49, 50, 51, 52, 53] 5 rfl (by decide) (5, 6) 5 41 rfl
  refine (DAppend a1 nmB [[49, 50, 51, 52, 53]] _ _ (by decide) a2 a3 (by rw [ex_4.2]; decide)).mono ?_
  rintro e w5 ⟨rfl, -, X5, -, h5⟩
  rw [ex_5.1]
  have H5 : Hid (DS w X5 gd x5 w5) := Lib.hid h5
  clear a1 a2 a3 h5
  go_wp2_with fail
  obtain ⟨a1, a2, a3⟩ := H5.out.ints [1] 1 rfl (by decide) (by decide) 3 rfl
  refine (DCrash a1 [1] _ _ a2 a3).mono ?_
  rintro e w6 ⟨rfl, -, X6, -, h6⟩
  rw [ex_6.1]
  have H6 : Hid (DS w X6 gd x6 w6) := Lib.hid h6
  clear a1 a2 a3 h6
  go_wp2_with fail
  refine (PRead_any x6 X6 gd nmA w6 H6.out.dsk H6.out.well.1.2.1 (by decide) (by rw [ex_6.2]; decide)).mono ?_
  rintro e w7 ⟨v, rfl, hown⟩
  rw [ex_7.1, ex_7.2] at *
  have HB : Hid (Below w.heap.size w w7) := Lib.hid (H6.out.below.trans (hown.1.mono H6.out.below.size))
  have hst := run_string (P := Try.prog) hown.rep 41 5 9 Try.underlying41 Try.underlying5 Try.underlying9
  obtain ⟨va, vc, rfl⟩ := hown.slice
  have hs2 : ((strOf [120, 121, 122, 117]).toList == [120, 121, 122, 117]) = true := by decide +kernel
  replace hst : (convert 41 9 (.slice va 4 vc)).run Try.prog w7 = .ok (.string (strOf [120, 121, 122, 117])) w7 := hst
  clear hown
  go_wp2_with fail
  go_ret
  exact ⟨rfl, HB.out⟩
end Go.Proofs.Ytgiipkmkmomofaa.M

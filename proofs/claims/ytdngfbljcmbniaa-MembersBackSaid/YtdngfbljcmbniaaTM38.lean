/- The document's Parse of a configuration: the walk. Package members' Parse. -/
import Derived.Test.YtdngfbljcmbniaaTM36
import Derived.Test.YtdngfbljcmbniaaTM22
import Derived.Test.YtdngfbljcmbniaaTM37
import Derived.BigQuiet
import Derived.Test.YtdngfbljcmbniaaTM30
/- Part: MmBk. -/
namespace Go.Proofs.Ytdngfbljcmbniaa.M
open Go.RowKit

/-- What Parse answers. -/
def PrsPost (r : Except Int Cf) (w : World) (e : Ending) (w' : World) : Prop :=
  Below w.heap.size w w' ∧ match r with
  | .error c => e = .returned (.tuple #[.agg #[.slice none 0 0, .slice none 0 0], .int .i64 c])
  | .ok c => ∃ vv lv, e = .returned (.tuple #[.agg #[vv, lv], .int .i64 0]) ∧ RepI w' (fun k => w.heap.size ≤ k ∧ k < w'.heap.size) c.v vv ∧ RepI w' (fun k => w.heap.size ≤ k ∧ k < w'.heap.size) c.l lv

theorem take_map_snoc {d : List Nat} {k x : Nat} (h : d[k]? = some x) : (d.take (k + 1)).map Int.ofNat = (d.take k).map Int.ofNat ++ [(x : Int)] := by
  rw [List.take_add_one, h]
  simp

theorem take_small_snoc {d : List Nat} {k x : Nat} (h : d[k]? = some x) (hs : ∀ y ∈ d.take k, y ≤ 1048575) (hx : x ≤ 1048575) : ∀ y ∈ d.take (k + 1), y ≤ 1048575 := by
  intro y hy
  rw [List.take_add_one, h] at hy
  rcases List.mem_append.1 hy with hy | hy
  · exact hs y hy
  · simp at hy; omega

theorem heap_far2 {w : World} {g j : Nat} {x y : Value} (h : g ≠ j) : ((w.setCell ⟨g, 0, none⟩ x).setCell ⟨g, 1, none⟩ y).heap[j]? = w.heap[j]? := by
  simp [World.setCell, Array.getElem?_modify, h]

/-- The loops' state: the box of the configuration, and the row that grows. -/
structure GAt (W : World) (N g7 B : Nat) (K : List Int) (kv : Value) (l : List Int) (v : Value) (cs : Array Value) (wr : World) : Prop where
  below : Below N W wr
  b7 : wr.heap[g7]? = some (.cells cs 25)
  keep : RepI wr (fun k => g7 < k ∧ k < B) K kv
  row : IR B l v wr
  size : B ≤ wr.heap.size

theorem GAt.drew {W : World} {N g7 B : Nat} {K l : List Int} {kv v : Value} {cs : Array Value} {wr : World} (h : GAt W N g7 B K kv l v cs wr) : GAt W N g7 B K kv l v cs wr.drew :=
  ⟨h.below.drew, h.b7, h.keep.same (fun _ h => h) fun _ _ => rfl, h.row.next (below_drew1 wr), h.size⟩

theorem GAt.alloc {W : World} {N g7 B : Nat} {K l : List Int} {kv v : Value} {cs : Array Value} {wr : World} (h : GAt W N g7 B K kv l v cs wr) (hN : N ≤ wr.heap.size) (o : Obj) : GAt W N g7 B K kv l v cs (wr.alloc o) :=
  ⟨h.below.alloc hN o, old_alloc h.b7, h.keep.same (fun _ h => h) fun k hk => Below.heap_alloc _ _ _ (by have := h.size; omega), h.row.next (below_alloc wr o), by have := h.size; simp; omega⟩

theorem GAt.app {W : World} {N g7 B : Nat} {K l l' : List Int} {kv v v' : Value} {cs : Array Value} {wr w6 : World} (h : GAt W N g7 B K kv l v cs wr) (hN : N ≤ g7) (hg : g7 < B) (ht : Turned B l' v v' wr w6) : GAt W N g7 B K kv l' v' cs w6 := by
  have hz := ht.2.1.size
  have hlt : ∀ k, k < B → some k ≠ v.ownBlock := fun k hk e => by
    have := (h.row.own.lt k e.symm).1
    omega
  have hs := h.size
  exact ⟨⟨ht.2.1.os.trans h.below.os, ht.2.1.tape.trans h.below.tape, ht.2.1.output.trans h.below.output, Nat.le_trans h.below.size hz, fun k hk => (ht.2.1.block k (by omega) (hlt k (by omega))).trans (h.below.block k hk)⟩,
    (ht.2.1.block g7 (by omega) (hlt g7 hg)).trans h.b7, h.keep.same (fun _ h => h) fun k hk => ht.2.1.block k (by omega) (hlt k hk.2), ht.1, by omega⟩

theorem GAt.put {W : World} {N g7 B j : Nat} {K l : List Int} {kv v u : Value} {cs cs' : Array Value} {wr : World} (h : GAt W N g7 B K kv l v cs wr) (hN : N ≤ g7) (hg : g7 < B) (hc : (wr.setCell ⟨g7, j, none⟩ u).heap[g7]? = some (.cells cs' 25)) : GAt W N g7 B K kv l v cs' (wr.setCell ⟨g7, j, none⟩ u) :=
  ⟨h.below.setCell hN _, hc, h.keep.same (fun _ h => h) fun k hk => by
    have : g7 ≠ k := by omega
    simp [World.setCell, Array.getElem?_modify, this], h.row.set fun e => by have := (h.row.own.lt g7 e).1; omega, by have := h.size; simpa using this⟩



set_option maxRecDepth 20000 in
set_option maxHeartbeats 25600000 in
theorem RefParse_any (L : List UInt8) (F : Nat → Prop) (v : Value) (hl : L.length ≤ 500000) (w : World) (h : RepB w F L v) (hF : ∀ k, F k → k < w.heap.size) :
    Calls Try.prog 7 #[v] w (PrsPost (parseC L) w) := by
  have HTK : Hid (∀ w', Below w.heap.size w w' → Calls Try.prog 19 #[.string ⟨#[91, 42, 110, 42, 110, 93]⟩, v, .int .i64 0] w' (TkC L.length (takeLL 2 L) w')) := Lib.hid fun w' hb => RefTakeC_any ⟨#[91, 42, 110, 42, 110, 93]⟩ rfl L 0 F v (by omega) (Nat.zero_le _) w' (h.same (fun _ h => h) fun k hk => hb.block k (hF k hk)) fun k hk => Nat.lt_of_lt_of_le (hF k hk) hb.size
  obtain ⟨va, vc, rfl, -⟩ := h.slice
  obtain ⟨n, hn⟩ : ∃ n, n = L.length := ⟨_, rfl⟩
  rw [← hn] at HTK hl ⊢
  have HN := Lib.hid hn
  obtain ⟨res, hres⟩ : ∃ res, res = parseC L := ⟨_, rfl⟩
  have HRES := Lib.hid hres
  rw [← hres]
  clear h hn hres hF
  go_enter Try.func7, Try.ntmps7
  go_wp2_with fail
  refine (HTK.out _ (below_alloc _ _)).mono ?_
  rintro e w3 ⟨hb3, hr⟩
  obtain ⟨g2, hg2⟩ : ∃ g2, g2 = w.heap.size := ⟨_, rfl⟩
  have HX2 : Hid (w3.heap[g2]? = some (.cells #[.slice none 0 0, .slice none 0 0] 25)) := Lib.hid (old_below (heap_new _ _ _ hg2) hb3)
  have HB3 : Hid (Below w.heap.size w w3) := Lib.hid ((below_alloc _ _).trans (hb3.mono (by simp)))
  have HG2 := Lib.hid hg2
  rw [← hg2]
  obtain ⟨x2a, x2b, y2a, y2b, x2z⟩ := block2' HX2.out
  clear hb3 hg2
  cases hq : takeLL 2 L with
  | error c =>
    rw [hq] at hr
    obtain ⟨zn, hc, rfl⟩ := hr
    have hc0 : ((c != 0) : Bool) = true := by rcases hc with rfl | rfl <;> rfl
    have HR4 : Hid (res = .error c) := Lib.hid (by rw [HRES.out, parseC, hq])
    clear hc hq
    go_wp2_with fail
    refine bodyPost_ret (results_row_tmp (P := Try.prog) Try.results7 _ _ g2 25 #[.slice none 0 0, .slice none 0 0] (0, 0) _ rfl (old_alloc (heap_set22 HX2.out)) Try.underlying25 rfl (by kernel_rfl) _ rfl) rfl ⟨?_, by rw [HR4.out]; rfl⟩
    have hg : w.heap.size ≤ g2 := by rw [HG2.out]; exact Nat.le_refl _
    exact ((HB3.out.setCell hg _).setCell hg _).alloc (by have := HB3.out.size; simpa using this) _
  | ok x =>
    obtain ⟨ds, rest⟩ := x
    rw [hq] at hr
    obtain ⟨lv, vs, rfl, hlr⟩ := hr
    obtain ⟨hdl, jj, hj1, hj2⟩ := takeLL_len hq
    have hsm := takeLL_small hq
    match ds, hdl with
    | [d1, d2], _ =>
    obtain ⟨b, c, v1, v2, rfl, hbz, hc2, hc5, hv1, hv2⟩ := hlr.two
    have hs1 := hsm d1 (by simp)
    have hs2 := hsm d2 (by simp)
    rw [← HN.out] at hs1 hs2
    obtain ⟨a1, k1, e1⟩ := owned_slice (show w3.ownsRow _ _ _ v1 d1.length _ from hv1)
    obtain ⟨a2, k2, e2⟩ := owned_slice (show w3.ownsRow _ _ _ v2 d2.length _ from hv2)
    subst e1 e2
    obtain ⟨n1, hn1⟩ : ∃ n1, n1 = d1.length := ⟨_, rfl⟩
    obtain ⟨n2, hn2⟩ : ∃ n2, n2 = d2.length := ⟨_, rfl⟩
    rw [← hn1] at hc2 hs1 hv1
    rw [← hn2] at hc5 hs2 hv2
    obtain ⟨at2, hat2⟩ : ∃ at2 : Nat, at2 = n - rest.length := ⟨_, rfl⟩
    rw [← hat2]
    obtain ⟨W, hW⟩ : ∃ W, W = w3.alloc (.cells #[.int .u64 0, .slice none 0 0, .slice (some ⟨b, 0, none⟩) 2 c] 45) := ⟨_, rfl⟩
    obtain ⟨g4, hg4⟩ : ∃ g4, g4 = w3.heap.size := ⟨_, rfl⟩
    have hbw : Below w3.heap.size w3 W := by rw [hW]; exact below_alloc _ _
    have HR4 : Hid (∀ w', Below W.heap.size W w' → w'.cell? ⟨g4, 2, none⟩ = some (.slice (some ⟨b, 0, none⟩) 2 c)) := Lib.hid fun w' hw' => (row3 (old_below (by rw [hW]; exact heap_new _ _ _ hg4) hw')).2.2.1
    have HRB : Hid (∀ w', Below W.heap.size W w' → w'.cell? ⟨b, 2, none⟩ = some (.slice a1 n1 k1) ∧ w'.cell? ⟨b, 5, none⟩ = some (.slice a2 n2 k2)) := Lib.hid fun w' hw' => by
      have h1 := (hbw.trans (hw'.mono hbw.size)).block b hbz
      exact ⟨(World.cell?_of_block (a := ⟨b, 2, none⟩) h1).trans hc2, (World.cell?_of_block (a := ⟨b, 5, none⟩) h1).trans hc5⟩
    have HD1 : Hid (∀ k, k < n1 → ∃ b1, a1 = some ⟨b1, 0, none⟩ ∧ ∃ x : Nat, d1[k]? = some x ∧ ∀ w', Below W.heap.size W w' → w'.cell? ⟨b1, k * 3, none⟩ = some (.int .u64 (x : Int))) := Lib.hid fun k hk => by
      obtain ⟨b1, c1, e1, hz1, hcs⟩ := hv1.at k (by omega)
      cases e1
      exact ⟨b1, rfl, d1[k]'(by omega), List.getElem?_eq_getElem _, fun w' hw' => (World.cell?_of_block (a := ⟨b1, k * 3, none⟩) ((hbw.trans (hw'.mono hbw.size)).block b1 hz1)).trans (hcs k (by omega))⟩
    have HD2 : Hid (∀ k, k < n2 → ∃ b1, a2 = some ⟨b1, 0, none⟩ ∧ ∃ x : Nat, d2[k]? = some x ∧ ∀ w', Below W.heap.size W w' → w'.cell? ⟨b1, k * 3, none⟩ = some (.int .u64 (x : Int))) := Lib.hid fun k hk => by
      obtain ⟨b1, c1, e1, hz1, hcs⟩ := hv2.at k (by omega)
      cases e1
      exact ⟨b1, rfl, d2[k]'(by omega), List.getElem?_eq_getElem _, fun w' hw' => (World.cell?_of_block (a := ⟨b1, k * 3, none⟩) ((hbw.trans (hw'.mono hbw.size)).block b1 hz1)).trans (hcs k (by omega))⟩
    have HX2W : Hid (W.heap[g2]? = some (.cells #[.slice none 0 0, .slice none 0 0] 25)) := Lib.hid (old_below HX2.out hbw)
    have HBW : Hid (Below w.heap.size w W) := Lib.hid (HB3.out.trans (hbw.mono HB3.out.size))
    have HPC : Hid (res = if 0 < rest.length then .error 12 else if smallN d1 && smallN d2 && yes (cOf d1 d2).ok then .ok (cOf d1 d2) else .error 80) := Lib.hid (by rw [HRES.out, parseC, hq])
    have hrn : rest.length ≤ n := by rw [hj2, List.length_drop, HN.out]; omega
    have HN1 := Lib.hid hn1
    have HN2 := Lib.hid hn2
    have HW := Lib.hid hW
    have HG4 := Lib.hid hg4
    clear x2a x2b y2a y2b x2z
    have hx2w := HX2W.out
    rw [hW] at hx2w
    obtain ⟨x2a, x2b, y2a, y2b, x2z⟩ := block2' hx2w
    obtain ⟨x4a, x4b, x4c, y4a, y4b, y4c, x4z⟩ := row3 (heap_new w3 (.cells #[.int .u64 0, .slice none 0 0, .slice (some ⟨b, 0, none⟩) 2 c] 45) w3.heap.size rfl)
    have HAT := Lib.hid hat2
    clear hx2w hat2
    by_cases hre : 0 < rest.length
    · have hlt : (at2 : Int) < (n : Int) := by have := HAT.out; omega
      have HR5 : Hid (res = .error 12) := Lib.hid (by rw [HPC.out, if_pos hre])
      clear hq hsm hlr hv1 hv2 hc2 hc5 hn1 hn2 hW hg4 hbw hj1 hj2
      go_wp2_with fail
      refine bodyPost_ret (results_row_tmp (P := Try.prog) Try.results7 _ _ g2 25 #[.slice none 0 0, .slice none 0 0] (0, 0) _ rfl (heap_set22 (by rw [← HW.out]; exact HX2W.out)) Try.underlying25 rfl (by kernel_rfl) _ rfl) rfl ⟨?_, by rw [HR5.out]; rfl⟩
      have hg : w.heap.size ≤ g2 := by rw [HG2.out]; exact Nat.le_refl _
      rw [← HW.out]
      exact (HBW.out.setCell hg _).setCell hg _
    · have hlt : ¬ (at2 : Int) < (n : Int) := by have := HAT.out; omega
      have hdec : decide (at2 < n) = false := decide_eq_false (by have := HAT.out; omega)
      have HR5 : Hid (res = if smallN d1 && smallN d2 && yes (cOf d1 d2).ok then .ok (cOf d1 d2) else .error 80) := Lib.hid (by rw [HPC.out, if_neg hre])
      clear hq hsm hlr hv1 hv2 hc2 hc5 hn1 hn2 hW hg4 hbw hj1 hj2
      obtain ⟨g7, hg7⟩ : ∃ g7, g7 = w3.heap.size + 1 := ⟨_, rfl⟩
      have HG7 : Hid (g7 = W.heap.size ∧ g7 = w3.heap.size + 1) := Lib.hid ⟨by rw [HW.out, hg7]; simp, hg7⟩
      clear hg7
      have HG2N : Hid (w.heap.size ≤ g2 ∧ g2 < W.heap.size) := Lib.hid ⟨by rw [HG2.out]; exact Nat.le_refl _, lt_of_heap HX2W.out⟩
      go_wp2_with fail
      rw [← HG7.out.2, ← HG4.out, ← HW.out]
      clear x2a x2b y2a y2b x2z x4a x4b x4c y4a y4b y4c x4z
      go_loopg [8] n1 (fun gk iv wr => ∃ (k : Nat) (vv : Value), k + gk = n1 ∧ iv = .int .i64 (k : Int) ∧ Hid (GAt W W.heap.size g7 (g7 + 1) [] (.slice none 0 0) ((d1.take k).map Int.ofNat) vv #[vv, .slice none 0 0] wr ∧ ∀ x ∈ d1.take k, x ≤ 1048575))
      case atStart => exact ⟨0, .slice none 0 0, by omega, rfl, Lib.hid ⟨⟨below_alloc _ _, by rw [HG7.out.1]; exact heap_new _ _ _ rfl, .inl ⟨rfl, Bare.nil⟩, IR.bare _ _, by rw [HG7.out.1]; simp⟩, fun x hx => by simp at hx⟩⟩
      case round =>
        obtain ⟨k, vv, hk, rfl, HK⟩ := hrel
        obtain ⟨wa, wc, hvv⟩ := HK.out.1.row.slice
        have hlk : ((d1.take k).map Int.ofNat).length = k := by rw [List.length_map, List.length_take, ← HN1.out]; omega
        rw [hlk] at hvv
        subst hvv
        have HLK := Lib.hid hlk
        clear hlk
        obtain ⟨x7a, x7b, y7a, y7b, x7z⟩ := block2' HK.out.1.b7
        have r0 : ∀ w', Below W.heap.size W w' → w'.cell? ⟨g4, 2, none⟩ = some (.slice (some ⟨b, 0, none⟩) 2 c) := HR4.out
        have r1 : ∀ w', Below W.heap.size W w' → w'.cell? ⟨b, 2, none⟩ = some (.slice a1 n1 k1) := fun w' hw' => (HRB.out w' hw').1
        have r1b : ∀ w', Below W.heap.size W w' → w'.cell? ⟨b, 5, none⟩ = some (.slice a2 n2 k2) := fun w' hw' => (HRB.out w' hw').2
        have q0 := r0 wr HK.out.1.below
        have q1 := r1 wr HK.out.1.below
        have q5 := r1b wr HK.out.1.below
        have q2 := (block2' ((HK.out.1.below.block g2 HG2N.out.2).trans HX2W.out))
        obtain ⟨q2a, q2b, q2c, q2d, q2z⟩ := q2
        by_cases hkn : k < n1
        · have hkn2 : (k : Int) < (n1 : Int) := by omega
          obtain ⟨b1, rfl, x, hx, hxc⟩ := HD1.out k hkn
          have q3 := hxc wr HK.out.1.below
          by_cases hxs : 1048575 < x
          · have hxs2 : (1048575 : Int) < (x : Int) := by omega
            have HR6 : Hid (res = .error 80) := Lib.hid (by
              obtain ⟨hk1, hk2⟩ := List.getElem?_eq_some_iff.1 hx
              rw [HR5.out, smallN_false hk1 (by rw [hk2]; exact hxs)]
              rfl)
            clear hx hxc r0 r1 r1b
            go_wp2_with fail
            refine bodyPost_ret (results_row_tmp (P := Try.prog) Try.results7 _ _ g2 25 #[.slice none 0 0, .slice none 0 0] (0, 0) _ rfl (heap_set22 ((HK.out.1.below.block g2 HG2N.out.2).trans HX2W.out)) Try.underlying25 rfl (by kernel_rfl) _ rfl) rfl ⟨?_, by rw [HR6.out]; rfl⟩
            exact ((HBW.out.trans (HK.out.1.below.mono HBW.out.size)).setCell HG2N.out.1 _).setCell HG2N.out.1 _
          · have hxs2 : ¬ (1048575 : Int) < (x : Int) := by omega
            have hwx : IntKind.i64.wrap (x : Int) = (x : Int) := by rw [IntKind.wrap_i64]; omega
            have HNX : Hid ((d1.take (k + 1)).map Int.ofNat = (d1.take k).map Int.ofNat ++ [(x : Int)]) := Lib.hid (take_map_snoc hx)
            have HSM : Hid (∀ y ∈ d1.take (k + 1), y ≤ 1048575) := Lib.hid (take_small_snoc hx HK.out.2 (by omega))
            clear hx
            go_wp2_with fail
            refine wp_region_held (S := fun w' => Below W.heap.size W w') (by kernel_rfl) ?_
            have hS0 : Below W.heap.size W wr.drew := HK.out.1.below.drew
            have r2 := hxc
            clear q0 q1 q5 q2a q2b q2c q2d q2z q3 hxc r1b
            have x7d : wr.drew.cell? ⟨g7, 0, none⟩ = some (.slice wa k wc) := x7a
            refine H_take (i := 0) (v := ?_) rfl (by as_aux_lemma => kernel_rfl) (by as_aux_lemma => kernel_rfl) (by as_aux_lemma => kernel_rfl) (fun _ _ _ h => h) (by rfl) hS0 ?_ ?_
            rotate_left
            · intro w' hw'; go_simp; with_reducible rfl
            go_simp
            refine H_take (i := 2) (v := ?_) rfl (by as_aux_lemma => kernel_rfl) (by as_aux_lemma => kernel_rfl) (by as_aux_lemma => kernel_rfl) (fun _ _ _ h => h) (by rfl) hS0 ?_ ?_
            rotate_left
            · intro w' hw'; go_simp; with_reducible rfl
            go_simp
            refine H_take (i := 3) (v := ?_) rfl (by as_aux_lemma => kernel_rfl) (by as_aux_lemma => kernel_rfl) (by as_aux_lemma => kernel_rfl) (fun _ _ _ h => h) (by rfl) hS0 ?_ ?_
            rotate_left
            · intro w' hw'; go_simp; with_reducible rfl
            go_simp
            refine H_take (i := 4) (v := ?_) rfl (by as_aux_lemma => kernel_rfl) (by as_aux_lemma => kernel_rfl) (by as_aux_lemma => kernel_rfl) (fun _ _ _ h => h) (by rfl) hS0 ?_ ?_
            rotate_left
            · intro w' hw'; go_simp; with_reducible rfl
            go_simp
            refine H_take (i := 5) (v := ?_) rfl (by as_aux_lemma => kernel_rfl) (by as_aux_lemma => kernel_rfl) (by as_aux_lemma => kernel_rfl) (fun _ _ _ h => h) (by rfl) hS0 ?_ ?_
            rotate_left
            · intro w' hw'; go_simp; with_reducible rfl
            go_simp
            refine H_take (i := 6) (v := ?_) rfl (by as_aux_lemma => kernel_rfl) (by as_aux_lemma => kernel_rfl) (by as_aux_lemma => kernel_rfl) (fun _ _ _ h => h) (by rfl) hS0 ?_ ?_
            rotate_left
            · intro w' hw'; go_simp; with_reducible rfl
            go_simp
            refine H_take (i := 7) (v := ?_) rfl (by as_aux_lemma => kernel_rfl) (by as_aux_lemma => kernel_rfl) (by as_aux_lemma => kernel_rfl) (fun _ _ _ h => h) (by rfl) hS0 ?_ ?_
            rotate_left
            · intro w' hw'; go_simp; with_reducible rfl
            go_simp
            refine H_take (i := 8) (v := ?_) rfl (by as_aux_lemma => kernel_rfl) (by as_aux_lemma => kernel_rfl) (by as_aux_lemma => kernel_rfl) (fun _ _ _ h => h) (by rfl) hS0 ?_ ?_
            rotate_left
            · intro w' hw'; go_simp; with_reducible rfl
            go_simp
            refine H_take (i := 9) (v := ?_) rfl (by as_aux_lemma => kernel_rfl) (by as_aux_lemma => kernel_rfl) (by as_aux_lemma => kernel_rfl) (fun _ _ _ h => h) (by rfl) hS0 ?_ ?_
            rotate_left
            · intro w' hw'; go_simp; with_reducible rfl
            go_simp
            refine H_take (i := 10) (v := ?_) rfl (by as_aux_lemma => kernel_rfl) (by as_aux_lemma => kernel_rfl) (by as_aux_lemma => kernel_rfl) (fun _ _ _ h => h) (by rfl) hS0 ?_ ?_
            rotate_left
            · intro w' hw'; go_simp; with_reducible rfl
            go_simp
            refine H_take (i := 11) (v := ?_) rfl (by as_aux_lemma => kernel_rfl) (by as_aux_lemma => kernel_rfl) (by as_aux_lemma => kernel_rfl) (fun _ _ _ h => h) (by rfl) hS0 ?_ ?_
            rotate_left
            · intro w' hw'; go_simp; with_reducible rfl
            go_simp
            have HGB : Hid (g7 < g7 + 1) := Lib.hid (Nat.lt_succ_self _)
            have HKL : Hid (((d1.take k).map Int.ofNat).length ≤ 1000000) := Lib.hid (by rw [List.length_map, List.length_take]; omega)
            have HGA : Hid (GAt W W.heap.size g7 (g7 + 1) [] (.slice none 0 0) ((d1.take k).map Int.ofNat) (.slice wa k wc) #[.slice wa k wc, .slice none 0 0] (wr.drew.alloc (.cells #[.int .i64 (x : Int)] 3))) := Lib.hid (HK.out.1.drew.alloc HK.out.1.below.size _)
            have hSa : Below W.heap.size W (wr.alloc (.cells #[.int .i64 (x : Int)] 3)).drew := HGA.out.below
            refine H_both (i := 1) (j := 12) (by as_aux_lemma => kernel_rfl) rfl rfl (by rfl) (by rfl) ?_ ?_
            · go_simp
              refine H_one (i := 12) (by as_aux_lemma => kernel_rfl) rfl (by rfl) ?_
              go_simp
              refine H_one (i := 13) (by as_aux_lemma => kernel_rfl) rfl (by rfl) ?_
              refine wp_ir_append (L := (d1.take k).map Int.ofNat) (L2 := [(x : Int)]) _ _ rfl rfl rfl HGA.out.row (by have := HGA.out.size; exact this) rfl (one_int (w := wr.drew) rfl (by omega)) (Nat.le_trans (Nat.add_le_add_right HKL.out 1) (by decide)) ?_
              intro v6 w6 ht
              have HG6 := Lib.hid (HGA.out.app (by have := HG7.out.1; omega) HGB.out ht)
              obtain ⟨a6, k6, hv6⟩ := HG6.out.row.slice
              rw [List.length_append, HLK.out, List.length_singleton] at hv6
              subst hv6
              obtain ⟨u0, u1, uf0, uf1, uz⟩ := block2' HG6.out.b7
              clear ht
              refine ⟨HG6.out.below, ?_⟩
              go_simp
              refine H_take (i := 14) (v := ?_) rfl (by as_aux_lemma => kernel_rfl) (by as_aux_lemma => kernel_rfl) (by as_aux_lemma => kernel_rfl) (fun _ _ _ h => h) (by rfl) HG6.out.below ?_ ?_
              rotate_left
              · intro w' hw'; go_simp; with_reducible rfl
              go_simp
              refine H_one (i := 15) (by as_aux_lemma => kernel_rfl) rfl (by rfl) ?_
              go_simp
              refine ⟨HG6.out.below.setCell (show W.heap.size ≤ g7 by have := HG7.out.1; omega) _, ?_⟩
              refine wpAnyH_done (by as_aux_lemma => kernel_rfl) ?_ _
              clear hS0 hSa
              go_wp2_with fail
              go_roundg (gk - 1)
              case measure => omega
              case rel => exact ⟨k + 1, _, by omega, by go_num, Lib.hid ⟨by rw [HNX.out]; exact HG6.out.put (show W.heap.size ≤ g7 by have := HG7.out.1; omega) HGB.out (heap_set2 HG6.out.b7).1, HSM.out⟩⟩
            · go_simp
              refine H_one (i := 1) (by as_aux_lemma => kernel_rfl) rfl (by rfl) ?_
              go_simp
              refine H_one (i := 13) (by as_aux_lemma => kernel_rfl) rfl (by rfl) ?_
              refine wp_ir_append (L := (d1.take k).map Int.ofNat) (L2 := [(x : Int)]) _ _ rfl rfl rfl HGA.out.row (by have := HGA.out.size; exact this) rfl (one_int (w := wr.drew) rfl (by omega)) (Nat.le_trans (Nat.add_le_add_right HKL.out 1) (by decide)) ?_
              intro v6 w6 ht
              have HG6 := Lib.hid (HGA.out.app (by have := HG7.out.1; omega) HGB.out ht)
              obtain ⟨a6, k6, hv6⟩ := HG6.out.row.slice
              rw [List.length_append, HLK.out, List.length_singleton] at hv6
              subst hv6
              obtain ⟨u0, u1, uf0, uf1, uz⟩ := block2' HG6.out.b7
              clear ht
              refine ⟨HG6.out.below, ?_⟩
              go_simp
              refine H_take (i := 14) (v := ?_) rfl (by as_aux_lemma => kernel_rfl) (by as_aux_lemma => kernel_rfl) (by as_aux_lemma => kernel_rfl) (fun _ _ _ h => h) (by rfl) HG6.out.below ?_ ?_
              rotate_left
              · intro w' hw'; go_simp; with_reducible rfl
              go_simp
              refine H_one (i := 15) (by as_aux_lemma => kernel_rfl) rfl (by rfl) ?_
              go_simp
              refine ⟨HG6.out.below.setCell (show W.heap.size ≤ g7 by have := HG7.out.1; omega) _, ?_⟩
              refine wpAnyH_done (by as_aux_lemma => kernel_rfl) ?_ _
              clear hS0 hSa
              go_wp2_with fail
              go_roundg (gk - 1)
              case measure => omega
              case rel => exact ⟨k + 1, _, by omega, by go_num, Lib.hid ⟨by rw [HNX.out]; exact HG6.out.put (show W.heap.size ≤ g7 by have := HG7.out.1; omega) HGB.out (heap_set2 HG6.out.b7).1, HSM.out⟩⟩
        · have hkn2 : ¬ (k : Int) < (n1 : Int) := by omega
          have hk3 : k = n1 := by omega
          have hdt : d1.take k = d1 := List.take_of_length_le (by rw [← HN1.out]; omega)
          rw [hdt] at HK
          rw [hk3] at HK x7a
          obtain ⟨B2, hB2⟩ : ∃ B2, B2 = wr.heap.size := ⟨_, rfl⟩
          have HGB : Hid (g7 < B2) := Lib.hid (by rw [hB2]; exact x7z)
          have HG2L : Hid (GAt W W.heap.size g7 B2 (d1.map Int.ofNat) (.slice wa n1 wc) [] (.slice none 0 0) #[.slice wa n1 wc, .slice none 0 0] wr) := Lib.hid ⟨HK.out.1.below, HK.out.1.b7, HK.out.1.row.rep.same (fun j hj => ⟨by omega, by omega⟩) fun _ _ => rfl, IR.bare _ _, by omega⟩
          have HS1 : Hid (smallN d1 = true) := Lib.hid (smallN_true HK.out.2)
          clear hdt HK HLK hB2 r0 r1 r1b
          go_wp2_with fail
          clear q0 q1 q5 q2a q2b q2c q2d q2z x7a x7b y7a y7b x7z
          go_loopg [9] n2 (fun gk iv wr => ∃ (k : Nat) (vv : Value), k + gk = n2 ∧ iv = .int .i64 (k : Int) ∧ Hid (GAt W W.heap.size g7 B2 (d1.map Int.ofNat) (.slice wa n1 wc) ((d2.take k).map Int.ofNat) vv #[.slice wa n1 wc, vv] wr ∧ ∀ x ∈ d2.take k, x ≤ 1048575))
          case atStart => exact ⟨0, .slice none 0 0, by omega, rfl, Lib.hid ⟨HG2L.out, fun x hx => by simp at hx⟩⟩
          case round =>
            obtain ⟨k, vv, hk, rfl, HK⟩ := hrel
            obtain ⟨ya, yc, hvv⟩ := HK.out.1.row.slice
            have hlk : ((d2.take k).map Int.ofNat).length = k := by rw [List.length_map, List.length_take, ← HN2.out]; omega
            rw [hlk] at hvv
            subst hvv
            have HLK := Lib.hid hlk
            clear hlk
            obtain ⟨x7a, x7b, y7a, y7b, x7z⟩ := block2' HK.out.1.b7
            have r0 : ∀ w', Below W.heap.size W w' → w'.cell? ⟨g4, 2, none⟩ = some (.slice (some ⟨b, 0, none⟩) 2 c) := HR4.out
            have r1b : ∀ w', Below W.heap.size W w' → w'.cell? ⟨b, 2, none⟩ = some (.slice a1 n1 k1) := fun w' hw' => (HRB.out w' hw').1
            have r1 : ∀ w', Below W.heap.size W w' → w'.cell? ⟨b, 5, none⟩ = some (.slice a2 n2 k2) := fun w' hw' => (HRB.out w' hw').2
            have q0 := r0 wr HK.out.1.below
            have q1 := r1 wr HK.out.1.below
            have q5 := r1b wr HK.out.1.below
            have q2 := (block2' ((HK.out.1.below.block g2 HG2N.out.2).trans HX2W.out))
            obtain ⟨q2a, q2b, q2c, q2d, q2z⟩ := q2
            by_cases hkn : k < n2
            · have hkn2 : (k : Int) < (n2 : Int) := by omega
              obtain ⟨b1, rfl, x, hx, hxc⟩ := HD2.out k hkn
              have q3 := hxc wr HK.out.1.below
              by_cases hxs : 1048575 < x
              · have hxs2 : (1048575 : Int) < (x : Int) := by omega
                have HR6 : Hid (res = .error 80) := Lib.hid (by
                  obtain ⟨hy1, hy2⟩ := List.getElem?_eq_some_iff.1 hx
                  rw [HR5.out, HS1.out, smallN_false hy1 (by rw [hy2]; exact hxs)]
                  rfl)
                clear hx hxc r0 r1 r1b
                go_wp2_with fail
                refine bodyPost_ret (results_row_tmp (P := Try.prog) Try.results7 _ _ g2 25 #[.slice none 0 0, .slice none 0 0] (0, 0) _ rfl (heap_set22 ((HK.out.1.below.block g2 HG2N.out.2).trans HX2W.out)) Try.underlying25 rfl (by kernel_rfl) _ rfl) rfl ⟨?_, by rw [HR6.out]; rfl⟩
                exact ((HBW.out.trans (HK.out.1.below.mono HBW.out.size)).setCell HG2N.out.1 _).setCell HG2N.out.1 _
              · have hxs2 : ¬ (1048575 : Int) < (x : Int) := by omega
                have hwx : IntKind.i64.wrap (x : Int) = (x : Int) := by rw [IntKind.wrap_i64]; omega
                have HNX : Hid ((d2.take (k + 1)).map Int.ofNat = (d2.take k).map Int.ofNat ++ [(x : Int)]) := Lib.hid (take_map_snoc hx)
                have HSM : Hid (∀ y ∈ d2.take (k + 1), y ≤ 1048575) := Lib.hid (take_small_snoc hx HK.out.2 (by omega))
                clear hx
                go_wp2_with fail
                refine wp_region_held (S := fun w' => Below W.heap.size W w') (by kernel_rfl) ?_
                have hS0 : Below W.heap.size W wr.drew := HK.out.1.below.drew
                have r2 := hxc
                clear q0 q1 q5 q2a q2b q2c q2d q2z q3 hxc r1b
                have x7d : wr.drew.cell? ⟨g7, 1, none⟩ = some (.slice ya k yc) := x7b
                refine H_take (i := 0) (v := ?_) rfl (by as_aux_lemma => kernel_rfl) (by as_aux_lemma => kernel_rfl) (by as_aux_lemma => kernel_rfl) (fun _ _ _ h => h) (by rfl) hS0 ?_ ?_
                rotate_left
                · intro w' hw'; go_simp; with_reducible rfl
                go_simp
                refine H_take (i := 2) (v := ?_) rfl (by as_aux_lemma => kernel_rfl) (by as_aux_lemma => kernel_rfl) (by as_aux_lemma => kernel_rfl) (fun _ _ _ h => h) (by rfl) hS0 ?_ ?_
                rotate_left
                · intro w' hw'; go_simp; with_reducible rfl
                go_simp
                refine H_take (i := 3) (v := ?_) rfl (by as_aux_lemma => kernel_rfl) (by as_aux_lemma => kernel_rfl) (by as_aux_lemma => kernel_rfl) (fun _ _ _ h => h) (by rfl) hS0 ?_ ?_
                rotate_left
                · intro w' hw'; go_simp; with_reducible rfl
                go_simp
                refine H_take (i := 4) (v := ?_) rfl (by as_aux_lemma => kernel_rfl) (by as_aux_lemma => kernel_rfl) (by as_aux_lemma => kernel_rfl) (fun _ _ _ h => h) (by rfl) hS0 ?_ ?_
                rotate_left
                · intro w' hw'; go_simp; with_reducible rfl
                go_simp
                refine H_take (i := 5) (v := ?_) rfl (by as_aux_lemma => kernel_rfl) (by as_aux_lemma => kernel_rfl) (by as_aux_lemma => kernel_rfl) (fun _ _ _ h => h) (by rfl) hS0 ?_ ?_
                rotate_left
                · intro w' hw'; go_simp; with_reducible rfl
                go_simp
                refine H_take (i := 6) (v := ?_) rfl (by as_aux_lemma => kernel_rfl) (by as_aux_lemma => kernel_rfl) (by as_aux_lemma => kernel_rfl) (fun _ _ _ h => h) (by rfl) hS0 ?_ ?_
                rotate_left
                · intro w' hw'; go_simp; with_reducible rfl
                go_simp
                refine H_take (i := 7) (v := ?_) rfl (by as_aux_lemma => kernel_rfl) (by as_aux_lemma => kernel_rfl) (by as_aux_lemma => kernel_rfl) (fun _ _ _ h => h) (by rfl) hS0 ?_ ?_
                rotate_left
                · intro w' hw'; go_simp; with_reducible rfl
                go_simp
                refine H_take (i := 8) (v := ?_) rfl (by as_aux_lemma => kernel_rfl) (by as_aux_lemma => kernel_rfl) (by as_aux_lemma => kernel_rfl) (fun _ _ _ h => h) (by rfl) hS0 ?_ ?_
                rotate_left
                · intro w' hw'; go_simp; with_reducible rfl
                go_simp
                refine H_take (i := 9) (v := ?_) rfl (by as_aux_lemma => kernel_rfl) (by as_aux_lemma => kernel_rfl) (by as_aux_lemma => kernel_rfl) (fun _ _ _ h => h) (by rfl) hS0 ?_ ?_
                rotate_left
                · intro w' hw'; go_simp; with_reducible rfl
                go_simp
                refine H_take (i := 10) (v := ?_) rfl (by as_aux_lemma => kernel_rfl) (by as_aux_lemma => kernel_rfl) (by as_aux_lemma => kernel_rfl) (fun _ _ _ h => h) (by rfl) hS0 ?_ ?_
                rotate_left
                · intro w' hw'; go_simp; with_reducible rfl
                go_simp
                refine H_take (i := 11) (v := ?_) rfl (by as_aux_lemma => kernel_rfl) (by as_aux_lemma => kernel_rfl) (by as_aux_lemma => kernel_rfl) (fun _ _ _ h => h) (by rfl) hS0 ?_ ?_
                rotate_left
                · intro w' hw'; go_simp; with_reducible rfl
                go_simp
                have HKL : Hid (((d2.take k).map Int.ofNat).length ≤ 1000000) := Lib.hid (by rw [List.length_map, List.length_take]; omega)
                have HGA : Hid (GAt W W.heap.size g7 B2 (d1.map Int.ofNat) (.slice wa n1 wc) ((d2.take k).map Int.ofNat) (.slice ya k yc) #[.slice wa n1 wc, .slice ya k yc] (wr.drew.alloc (.cells #[.int .i64 (x : Int)] 3))) := Lib.hid (HK.out.1.drew.alloc HK.out.1.below.size _)
                have hSa : Below W.heap.size W (wr.alloc (.cells #[.int .i64 (x : Int)] 3)).drew := HGA.out.below
                refine H_both (i := 1) (j := 12) (by as_aux_lemma => kernel_rfl) rfl rfl (by rfl) (by rfl) ?_ ?_
                · go_simp
                  refine H_one (i := 12) (by as_aux_lemma => kernel_rfl) rfl (by rfl) ?_
                  go_simp
                  refine H_one (i := 13) (by as_aux_lemma => kernel_rfl) rfl (by rfl) ?_
                  refine wp_ir_append (L := (d2.take k).map Int.ofNat) (L2 := [(x : Int)]) _ _ rfl rfl rfl HGA.out.row (by have := HGA.out.size; exact this) rfl (one_int (w := wr.drew) rfl (by omega)) (Nat.le_trans (Nat.add_le_add_right HKL.out 1) (by decide)) ?_
                  intro v6 w6 ht
                  have HG6 := Lib.hid (HGA.out.app (by have := HG7.out.1; omega) HGB.out ht)
                  obtain ⟨a6, k6, hv6⟩ := HG6.out.row.slice
                  rw [List.length_append, HLK.out, List.length_singleton] at hv6
                  subst hv6
                  obtain ⟨u0, u1, uf0, uf1, uz⟩ := block2' HG6.out.b7
                  clear ht
                  refine ⟨HG6.out.below, ?_⟩
                  go_simp
                  refine H_take (i := 14) (v := ?_) rfl (by as_aux_lemma => kernel_rfl) (by as_aux_lemma => kernel_rfl) (by as_aux_lemma => kernel_rfl) (fun _ _ _ h => h) (by rfl) HG6.out.below ?_ ?_
                  rotate_left
                  · intro w' hw'; go_simp; with_reducible rfl
                  go_simp
                  refine H_one (i := 15) (by as_aux_lemma => kernel_rfl) rfl (by rfl) ?_
                  go_simp
                  refine ⟨HG6.out.below.setCell (show W.heap.size ≤ g7 by have := HG7.out.1; omega) _, ?_⟩
                  refine wpAnyH_done (by as_aux_lemma => kernel_rfl) ?_ _
                  clear hS0 hSa
                  go_wp2_with fail
                  go_roundg (gk - 1)
                  case measure => omega
                  case rel => exact ⟨k + 1, _, by omega, by go_num, Lib.hid ⟨by rw [HNX.out]; exact HG6.out.put (show W.heap.size ≤ g7 by have := HG7.out.1; omega) HGB.out (heap_set2 HG6.out.b7).2, HSM.out⟩⟩
                · go_simp
                  refine H_one (i := 1) (by as_aux_lemma => kernel_rfl) rfl (by rfl) ?_
                  go_simp
                  refine H_one (i := 13) (by as_aux_lemma => kernel_rfl) rfl (by rfl) ?_
                  refine wp_ir_append (L := (d2.take k).map Int.ofNat) (L2 := [(x : Int)]) _ _ rfl rfl rfl HGA.out.row (by have := HGA.out.size; exact this) rfl (one_int (w := wr.drew) rfl (by omega)) (Nat.le_trans (Nat.add_le_add_right HKL.out 1) (by decide)) ?_
                  intro v6 w6 ht
                  have HG6 := Lib.hid (HGA.out.app (by have := HG7.out.1; omega) HGB.out ht)
                  obtain ⟨a6, k6, hv6⟩ := HG6.out.row.slice
                  rw [List.length_append, HLK.out, List.length_singleton] at hv6
                  subst hv6
                  obtain ⟨u0, u1, uf0, uf1, uz⟩ := block2' HG6.out.b7
                  clear ht
                  refine ⟨HG6.out.below, ?_⟩
                  go_simp
                  refine H_take (i := 14) (v := ?_) rfl (by as_aux_lemma => kernel_rfl) (by as_aux_lemma => kernel_rfl) (by as_aux_lemma => kernel_rfl) (fun _ _ _ h => h) (by rfl) HG6.out.below ?_ ?_
                  rotate_left
                  · intro w' hw'; go_simp; with_reducible rfl
                  go_simp
                  refine H_one (i := 15) (by as_aux_lemma => kernel_rfl) rfl (by rfl) ?_
                  go_simp
                  refine ⟨HG6.out.below.setCell (show W.heap.size ≤ g7 by have := HG7.out.1; omega) _, ?_⟩
                  refine wpAnyH_done (by as_aux_lemma => kernel_rfl) ?_ _
                  clear hS0 hSa
                  go_wp2_with fail
                  go_roundg (gk - 1)
                  case measure => omega
                  case rel => exact ⟨k + 1, _, by omega, by go_num, Lib.hid ⟨by rw [HNX.out]; exact HG6.out.put (show W.heap.size ≤ g7 by have := HG7.out.1; omega) HGB.out (heap_set2 HG6.out.b7).2, HSM.out⟩⟩
            · have hkn2 : ¬ (k : Int) < (n2 : Int) := by omega
              have hkk : k = n2 := by omega
              have hdt : d2.take k = d2 := List.take_of_length_le (by rw [← HN2.out]; omega)
              rw [hdt] at HK
              have HRI : Hid (res = if yes (cOf d1 d2).ok then .ok (cOf d1 d2) else .error 80) := Lib.hid (by rw [HR5.out, HS1.out, smallN_true HK.out.2]; rfl)
              have hlen : (cOf d1 d2).v.length + (cOf d1 d2).l.length ≤ 1000000 := by
                simp only [cOf, List.length_map]
                rw [← HN1.out, ← HN2.out]
                omega
              have hfr : ∀ j, (g7 < j ∧ j < wr.heap.size) → j < wr.heap.size := fun j hj => hj.2
              have HRT := Lib.hid (RefRightC_any (cOf d1 d2) (fun j => g7 < j ∧ j < wr.heap.size) _ _ wr (HK.out.1.keep.same (fun j hj => ⟨hj.1, by have := HK.out.1.size; omega⟩) fun _ _ => rfl) (HK.out.1.row.rep.same (fun j hj => ⟨by have := HGB.out; omega, hj.2⟩) fun _ _ => rfl) hfr hlen)
              clear hlen hfr hdt hkk
              go_wp2_with fail
              refine HRT.out.mono ?_
              rintro e w8 ⟨rfl, hb8⟩
              have HB8 : Hid (Below W.heap.size W w8) := Lib.hid (HK.out.1.below.trans (hb8.mono HK.out.1.below.size))
              have HB8' : Hid (Below wr.heap.size wr w8) := Lib.hid hb8
              have HX8 : Hid (w8.heap[g2]? = some (.cells #[.slice none 0 0, .slice none 0 0] 25)) := Lib.hid ((HB8.out.block g2 HG2N.out.2).trans HX2W.out)
              have HG8 : Hid (w8.heap[g7]? = some (.cells #[.slice wa n1 wc, .slice ya k yc] 25)) := Lib.hid (old_below HK.out.1.b7 hb8)
              clear hb8 x7a x7b y7a y7b x7z q0 q1 q5 q2a q2b q2c q2d q2z r0 r1 r1b
              obtain ⟨x7a, x7b, y7a, y7b, x7z⟩ := block2' HG8.out
              obtain ⟨q2a, q2b, q2c, q2d, q2z⟩ := block2' HX8.out
              obtain ⟨ok, hok⟩ : ∃ ok, ok = yes (cOf d1 d2).ok := ⟨_, rfl⟩
              rw [← hok] at HRI ⊢
              clear hok
              cases ok with
              | false =>
                go_wp2_with fail
                refine bodyPost_ret (results_row_tmp (P := Try.prog) Try.results7 _ _ g2 25 #[.slice none 0 0, .slice none 0 0] (0, 0) _ rfl (heap_set22 HX8.out) Try.underlying25 rfl (by kernel_rfl) _ rfl) rfl ⟨?_, by rw [HRI.out]; rfl⟩
                exact ((HBW.out.trans (HB8.out.mono HBW.out.size)).setCell HG2N.out.1 _).setCell HG2N.out.1 _
              | true =>
                go_wp2_with fail
                refine bodyPost_ret (results_row_tmp (P := Try.prog) Try.results7 _ _ g2 25 #[.slice wa n1 wc, .slice ya k yc] (0, 0) _ rfl (heap_set22 HX8.out) Try.underlying25 rfl (by kernel_rfl) _ rfl) rfl ⟨?_, ?_⟩
                · exact ((HBW.out.trans (HB8.out.mono HBW.out.size)).setCell HG2N.out.1 _).setCell HG2N.out.1 _
                · rw [HRI.out]
                  refine ⟨_, _, rfl, ?_, ?_⟩
                  · exact HK.out.1.keep.same (fun j hj => ⟨by have := HG7.out.1; have := HBW.out.size; omega, by have h1 := HK.out.1.size; have h2 := HB8'.out.size; simp; omega⟩) fun j hj => (heap_far2 (by have := HG2N.out.2; have := HG7.out.1; omega)).trans (HB8'.out.block j (by have := HK.out.1.size; omega))
                  · exact HK.out.1.row.rep.same (fun j hj => ⟨by have := HG7.out.1; have := HGB.out; have := HBW.out.size; omega, by have h2 := HB8'.out.size; simp; omega⟩) fun j hj => (heap_far2 (by have := HG2N.out.2; have := HG7.out.1; have := HGB.out; omega)).trans (HB8'.out.block j hj.2)
end Go.Proofs.Ytdngfbljcmbniaa.M

/- Part: MmBm. -/
namespace Go.Proofs.Ytdngfbljcmbniaa.M
open Go.RowKit

/-- The values that Take answers of a configuration's shape. -/
theorem takeAt_conf {L : List UInt8} {d : V} (h : takeAt [91, 42, 110, 42, 110, 93] L = .ok d) : ∃ x y : V, d = .mk 0 [] [x, y] ∧ x.l.length ≤ L.length ∧ y.l.length ≤ L.length := by
  unfold takeAt at h
  rw [shape_conf] at h
  simp only at h
  rw [takeV_conf] at h
  cases hq : takeLL 2 L with
  | error e => rw [hq] at h; cases h
  | ok z =>
    obtain ⟨ds, rest⟩ := z
    rw [hq] at h
    obtain ⟨hl, -⟩ := takeLL_len hq
    have hs := takeLL_small hq
    match ds, hl with
    | [a, b], _ =>
      simp only at h
      split at h
      · cases h
        exact ⟨rowV a, rowV b, rfl, by simpa [rowV, V.l] using hs a (by simp), by simpa [rowV, V.l] using hs b (by simp)⟩
      · cases h

theorem takeAt_code {L : List UInt8} {c : Int} (h : takeAt [91, 42, 110, 42, 110, 93] L = .error c) : c = 11 ∨ c = 12 ∨ c = 13 := by
  unfold takeAt at h
  rw [shape_conf] at h
  simp only at h
  have hf := fair_take shC L
  cases hq : takeV shC L with
  | error e =>
    rw [hq] at h hf
    cases h
    rcases hf with rfl | rfl
    · exact .inl rfl
    · exact .inr (.inr rfl)
  | ok z =>
    obtain ⟨d, l⟩ := z
    rw [hq] at h
    simp only at h
    split at h
    · cases h
    · cases h
      exact .inr (.inl rfl)



set_option maxRecDepth 20000 in
set_option maxHeartbeats 6400000 in
theorem mParse_any (L : List UInt8) (F : Nat → Prop) (v : Value) (hl : L.length ≤ 500000) (w : World) (h : RepB w F L v) (hF : ∀ k, F k → k < w.heap.size) :
    Calls Try.prog 6 #[v] w (PrsPost (parseC L) w) := by
  rw [← parseM_eq]
  have HTK : Hid (∀ w', Below w.heap.size w w' → Calls Try.prog 16 #[.string ⟨#[91, 42, 110, 42, 110, 93]⟩, v] w' (TakePost w' (takeAt [91, 42, 110, 42, 110, 93] L))) := Lib.hid fun w' hb => by
    have := Take_any ⟨#[91, 42, 110, 42, 110, 93]⟩ L F v w' (by decide) (h.same (fun _ h => h) fun k hk => hb.block k (hF k hk)) (fun k hk => Nat.lt_of_lt_of_le (hF k hk) hb.size) (by omega)
    exact this
  obtain ⟨va, vc, rfl, -⟩ := h.slice
  obtain ⟨n, hn⟩ : ∃ n, n = L.length := ⟨_, rfl⟩
  rw [← hn] at HTK
  have HN := Lib.hid hn
  obtain ⟨res, hres⟩ : ∃ res, res = parseM L := ⟨_, rfl⟩
  have HRES := Lib.hid hres
  rw [← hres, ← hn]
  clear h hn hres hF
  go_enter Try.func6, Try.ntmps6
  go_wp2_with fail
  refine (HTK.out _ (below_alloc _ _)).mono ?_
  rintro e w3 ⟨hb3, hr⟩
  obtain ⟨g2, hg2⟩ : ∃ g2, g2 = w.heap.size := ⟨_, rfl⟩
  have HX2 : Hid (w3.heap[g2]? = some (.cells #[.slice none 0 0, .slice none 0 0] 25)) := Lib.hid (old_below (heap_new _ _ _ hg2) hb3)
  have HB3 : Hid (Below w.heap.size w w3) := Lib.hid ((below_alloc _ _).trans (hb3.mono (by simp)))
  have HG2 := Lib.hid hg2
  rw [← hg2]
  obtain ⟨x2a, x2b, y2a, y2b, x2z⟩ := block2' HX2.out
  clear hb3 hg2
  cases hq : takeAt [91, 42, 110, 42, 110, 93] L with
  | error c =>
    rw [hq] at hr
    replace hr : e = .returned (.tuple #[.agg #[.int .u64 0, .slice none 0 0, .slice none 0 0], .int .i64 c]) := hr
    subst hr
    have hc0 : ((c != 0) : Bool) = true := by rcases takeAt_code hq with rfl | rfl | rfl <;> rfl
    have HR4 : Hid (res = .error c) := Lib.hid (by rw [HRES.out, parseM, hq])
    clear hq
    go_wp2_with fail
    refine bodyPost_ret (results_row_tmp (P := Try.prog) Try.results6 _ _ g2 25 #[.slice none 0 0, .slice none 0 0] (0, 0) _ rfl (old_alloc (heap_set22 HX2.out)) Try.underlying25 rfl (by kernel_rfl) _ rfl) rfl ⟨?_, by rw [HR4.out]; rfl⟩
    have hg : w.heap.size ≤ g2 := by rw [HG2.out]; exact Nat.le_refl _
    exact ((HB3.out.setCell hg _).setCell hg _).alloc (by have := HB3.out.size; simpa using this) _
  | ok d =>
    obtain ⟨x, y, rfl, hx, hy⟩ := takeAt_conf hq
    rw [hq] at hr
    obtain ⟨u, rfl, hru⟩ := hr
    obtain ⟨vb, vl, rfl, -, hrb, hrl⟩ := RepV_mk.1 hru
    obtain ⟨ba, bc, hvb, -⟩ := hrb.slice
    rcases hrl with ⟨h0, -⟩ | ⟨b, off, c, hvl, hbF, -, -, hvs⟩
    · cases h0
    subst hvb hvl
    have hbz : b < w3.heap.size := hbF.2
    rw [show ([x, y] : List V).length = 2 from rfl, show ([] : List UInt8).length = 0 from rfl]
    obtain ⟨u1, ⟨p0, p1, p2, rfl, e0, e1, e2⟩, hr1⟩ := RepVs.get _ hvs 0 (by simp)
    obtain ⟨u2, ⟨q0, q1, q2, rfl, f0, f1, f2⟩, hr2⟩ := RepVs.get _ hvs 1 (by simp)
    replace hr1 : RepV w3 _ x (.agg #[p0, p1, p2]) := hr1
    replace hr2 : RepV w3 _ y (.agg #[q0, q1, q2]) := hr2
    obtain ⟨xn, xb, xl⟩ := x
    obtain ⟨yn, yb, yl⟩ := y
    replace hx : xl.length ≤ L.length := hx
    replace hy : yl.length ≤ L.length := hy
    have HI1 := Lib.hid hr1
    have HI2 := Lib.hid hr2
    obtain ⟨xvb, xvl, exx, -, hxb, hxl⟩ := RepV_mk.1 hr1
    obtain ⟨yvb, yvl, eyy, -, hyb, hyl⟩ := RepV_mk.1 hr2
    obtain ⟨s1, s2, e9, -⟩ := hxb.slice
    obtain ⟨s3, s4, e10, -⟩ := hxl.slice
    obtain ⟨s5, s6, e11, -⟩ := hyb.slice
    obtain ⟨s7, s8, e12, -⟩ := hyl.slice
    simp only [Value.agg.injEq, Array.mk.injEq, List.cons.injEq, and_true] at exx eyy
    obtain ⟨z1, z2, z3⟩ := exx
    obtain ⟨z4, z5, z6⟩ := eyy
    obtain ⟨m1, hm1⟩ : ∃ m, m = xb.length := ⟨_, rfl⟩
    obtain ⟨m2, hm2⟩ : ∃ m, m = xl.length := ⟨_, rfl⟩
    obtain ⟨m3, hm3⟩ : ∃ m, m = yb.length := ⟨_, rfl⟩
    obtain ⟨m4, hm4⟩ : ∃ m, m = yl.length := ⟨_, rfl⟩
    rw [← hm1] at e9
    rw [← hm2] at e10
    rw [← hm3] at e11
    rw [← hm4] at e12
    subst e9 e10 e11 e12
    subst z1 z2 z3 z4 z5 z6
    obtain ⟨W, hW⟩ : ∃ W, W = w3.alloc (.cells #[.int .u64 0, .slice ba 0 bc, .slice (some ⟨b, off, none⟩) 2 c] 45) := ⟨_, rfl⟩
    obtain ⟨g4, hg4⟩ : ∃ g4, g4 = w3.heap.size := ⟨_, rfl⟩
    have hbw : Below w3.heap.size w3 W := by rw [hW]; exact below_alloc _ _
    have r0 : ∀ w', Below W.heap.size W w' → w'.cell? ⟨g4, 2, none⟩ = some (.slice (some ⟨b, off, none⟩) 2 c) := fun w' hw' => (row3 (old_below (by rw [hW]; exact heap_new _ _ _ hg4) hw')).2.2.1
    have hbb : ∀ (o : Nat) (v : Value), w3.cell? ⟨b, o, none⟩ = some v → ∀ w', Below W.heap.size W w' → w'.cell? ⟨b, o, none⟩ = some v := fun o v hv w' hw' => (World.cell?_of_block (a := ⟨b, o, none⟩) ((hbw.trans (hw'.mono hbw.size)).block b hbz)).trans hv
    have r1 := hbb (off) _ (by simpa using e0)
    have r2 := hbb (off + 1) _ (by simpa using e1)
    have r3 := hbb (off + 2) _ (by simpa using e2)
    have r4 := hbb (off + 3) _ (by simpa using f0)
    have r5 := hbb (off + 4) _ (by simpa using f1)
    have r6 := hbb (off + 5) _ (by simpa using f2)
    have HX2W : Hid (W.heap[g2]? = some (.cells #[.slice none 0 0, .slice none 0 0] 25)) := Lib.hid (old_below HX2.out hbw)
    have HBW : Hid (Below w.heap.size w W) := Lib.hid (HB3.out.trans (hbw.mono HB3.out.size))
    have HC1 : Hid (∀ w', Below W.heap.size W w' → Calls Try.prog 17 #[.agg #[.int .u64 (xn : Int), .slice s1 m1 s2, .slice s3 m2 s4]] w' fun e w'' => ∃ u, e = .returned u ∧ Below w'.heap.size w' w'' ∧ RepI w'' (fun k => w'.heap.size ≤ k ∧ k < w''.heap.size) (xl.map asInt) u) := Lib.hid fun w' hw' =>
      idsOf_any xn xb xl _ _ w' (HI1.out.same (fun _ h => h) fun k hk => (hbw.trans (hw'.mono hbw.size)).block k hk.2) (fun k hk => Nat.lt_of_lt_of_le hk.2 (Nat.le_trans hbw.size hw'.size)) (by omega)
    have HC2 : Hid (∀ w', Below W.heap.size W w' → Calls Try.prog 17 #[.agg #[.int .u64 (yn : Int), .slice s5 m3 s6, .slice s7 m4 s8]] w' fun e w'' => ∃ u, e = .returned u ∧ Below w'.heap.size w' w'' ∧ RepI w'' (fun k => w'.heap.size ≤ k ∧ k < w''.heap.size) (yl.map asInt) u) := Lib.hid fun w' hw' =>
      idsOf_any yn yb yl _ _ w' (HI2.out.same (fun _ h => h) fun k hk => (hbw.trans (hw'.mono hbw.size)).block k hk.2) (fun k hk => Nat.lt_of_lt_of_le hk.2 (Nat.le_trans hbw.size hw'.size)) (by omega)
    have HPC : Hid (res = if yes (Cf.mk (xl.map asInt) (yl.map asInt)).ok then .ok ⟨xl.map asInt, yl.map asInt⟩ else .error 80) := Lib.hid (by rw [HRES.out, parseM, hq]; rfl)
    have HSZ : Hid (xl.length ≤ 500000 ∧ yl.length ≤ 500000) := Lib.hid ⟨by omega, by omega⟩
    have HG2N : Hid (w.heap.size ≤ g2 ∧ g2 < W.heap.size) := Lib.hid ⟨by rw [HG2.out]; exact Nat.le_refl _, lt_of_heap HX2W.out⟩
    obtain ⟨x4a, x4b, x4c, y4a, y4b, y4c, x4z⟩ := row3 (heap_new w3 (.cells #[.int .u64 0, .slice ba 0 bc, .slice (some ⟨b, off, none⟩) 2 c] 45) w3.heap.size rfl)
    have HW := Lib.hid hW
    have HG4 := Lib.hid hg4
    clear hr1 hr2 hxb hxl hyb hyl hm1 hm2 hm3 hm4 hbb hbw hW hg4 hru hrb hvs hbF hq hx hy e0 e1 e2 f0 f1 f2
    go_wp2_with fail
    rw [← HG4.out, ← HW.out]
    refine wp_region_held (S := fun w' => Below W.heap.size W w') (by kernel_rfl) ?_
    have hs0 : Below W.heap.size W W.drew := below_drew1 W
    refine H_take (i := 0) (v := ?_) rfl (by as_aux_lemma => kernel_rfl) (by as_aux_lemma => kernel_rfl) (by as_aux_lemma => kernel_rfl) (fun _ _ _ h => h) (by rfl) hs0 ?_ ?_
    rotate_left
    · intro w' hw'; go_simp; with_reducible rfl
    go_simp
    refine H_take (i := 1) (v := ?_) rfl (by as_aux_lemma => kernel_rfl) (by as_aux_lemma => kernel_rfl) (by as_aux_lemma => kernel_rfl) (fun _ _ _ h => h) (by rfl) hs0 ?_ ?_
    rotate_left
    · intro w' hw'; go_simp; with_reducible rfl
    go_simp
    refine H_take (i := 2) (v := ?_) rfl (by as_aux_lemma => kernel_rfl) (by as_aux_lemma => kernel_rfl) (by as_aux_lemma => kernel_rfl) (fun _ _ _ h => h) (by rfl) hs0 ?_ ?_
    rotate_left
    · intro w' hw'; go_simp; with_reducible rfl
    go_simp
    refine H_take (i := 3) (v := ?_) rfl (by as_aux_lemma => kernel_rfl) (by as_aux_lemma => kernel_rfl) (by as_aux_lemma => kernel_rfl) (fun _ _ _ h => h) (by rfl) hs0 ?_ ?_
    rotate_left
    · intro w' hw'; go_simp; with_reducible rfl
    go_simp
    refine H_take (i := 5) (v := ?_) rfl (by as_aux_lemma => kernel_rfl) (by as_aux_lemma => kernel_rfl) (by as_aux_lemma => kernel_rfl) (fun _ _ _ h => h) (by rfl) hs0 ?_ ?_
    rotate_left
    · intro w' hw'; go_simp; with_reducible rfl
    go_simp
    refine H_take (i := 6) (v := ?_) rfl (by as_aux_lemma => kernel_rfl) (by as_aux_lemma => kernel_rfl) (by as_aux_lemma => kernel_rfl) (fun _ _ _ h => h) (by rfl) hs0 ?_ ?_
    rotate_left
    · intro w' hw'; go_simp; with_reducible rfl
    go_simp
    refine H_take (i := 7) (v := ?_) rfl (by as_aux_lemma => kernel_rfl) (by as_aux_lemma => kernel_rfl) (by as_aux_lemma => kernel_rfl) (fun _ _ _ h => h) (by rfl) hs0 ?_ ?_
    rotate_left
    · intro w' hw'; go_simp; with_reducible rfl
    go_simp
    refine H_take (i := 8) (v := ?_) rfl (by as_aux_lemma => kernel_rfl) (by as_aux_lemma => kernel_rfl) (by as_aux_lemma => kernel_rfl) (fun _ _ _ h => h) (by rfl) hs0 ?_ ?_
    rotate_left
    · intro w' hw'; go_simp; with_reducible rfl
    go_simp
    refine H_both (i := 4) (j := 11) (by as_aux_lemma => kernel_rfl) rfl rfl (by rfl) (by rfl) ?_ ?_
    · go_simp
      refine (HC1.out W.drew hs0).mono ?_
      rintro e w5 ⟨u5, rfl, hb5, hr5⟩
      obtain ⟨a5, k5, hv5, -⟩ := hr5.slice
      obtain ⟨n5, hn5⟩ : ∃ n5, n5 = (xl.map asInt).length := ⟨_, rfl⟩
      rw [← hn5] at hv5
      subst hv5
      have hsw5 : Below W.heap.size W w5 := hs0.trans (hb5.mono hs0.size)
      have HR5 := Lib.hid hr5
      have HBB5 : Hid (Below (W.drew).heap.size (W.drew) w5) := Lib.hid hb5
      clear hr5 hb5 hn5
      refine ⟨hsw5, ?_⟩
      go_simp
      refine H_both (i := 9) (j := 11) (by as_aux_lemma => kernel_rfl) rfl rfl (by rfl) (by rfl) ?_ ?_
      · go_simp
        refine (HC2.out w5 hsw5).mono ?_
        rintro e w6 ⟨u6, rfl, hb6, hr6⟩
        obtain ⟨a6, k6, hv6, -⟩ := hr6.slice
        obtain ⟨n6, hn6⟩ : ∃ n6, n6 = (yl.map asInt).length := ⟨_, rfl⟩
        rw [← hn6] at hv6
        subst hv6
        have hsw6 : Below W.heap.size W w6 := hsw5.trans (hb6.mono hsw5.size)
        have HR6 := Lib.hid hr6
        have HBB6 : Hid (Below (w5).heap.size (w5) w6) := Lib.hid hb6
        clear hr6 hb6 hn6
        refine ⟨hsw6, ?_⟩
        go_simp
        refine H_take (i := 10) (v := ?_) rfl (by as_aux_lemma => kernel_rfl) (by as_aux_lemma => kernel_rfl) (by as_aux_lemma => kernel_rfl) (fun _ _ _ h => h) (by rfl) hsw6 ?_ ?_
        rotate_left
        · intro w' hw'; go_simp; with_reducible rfl
        go_simp
        refine H_one (i := 11) (by as_aux_lemma => kernel_rfl) rfl (by rfl) ?_
        go_simp
        obtain ⟨w7, hw7⟩ : ∃ w7, w7 = w6.alloc (.cells #[.slice none 0 0, .slice none 0 0] 25) := ⟨_, rfl⟩
        obtain ⟨g6, hg6⟩ : ∃ g6, g6 = w6.heap.size := ⟨_, rfl⟩
        have hb67 : Below w6.heap.size w6 w7 := by rw [hw7]; exact below_alloc _ _
        have HS7 : Hid (Below W.heap.size W w7) := Lib.hid (hsw6.trans (hb67.mono hsw6.size))
        have HX7 : Hid (w7.heap[g6]? = some (.cells #[.slice none 0 0, .slice none 0 0] 25)) := Lib.hid (by rw [hw7]; exact heap_new _ _ _ hg6)
        have HGW : Hid (W.heap.size ≤ g6) := Lib.hid (by rw [hg6]; exact hsw6.size)
        have HV1 : Hid (RepI w7 (fun k => W.heap.size ≤ k ∧ k < w7.heap.size ∧ k ≠ g6) (xl.map asInt) (.slice a5 n5 k5)) := Lib.hid (HR5.out.same (fun k hk => ⟨hk.1, by have := HBB6.out.size; have := hb67.size; omega, by have := HBB6.out.size; omega⟩) fun k hk => (hb67.block k (by have := HBB6.out.size; omega)).trans (HBB6.out.block k hk.2))
        have HV2 : Hid (RepI w7 (fun k => W.heap.size ≤ k ∧ k < w7.heap.size ∧ k ≠ g6) (yl.map asInt) (.slice a6 n6 k6)) := Lib.hid (HR6.out.same (fun k hk => ⟨by have := hsw5.size; omega, by have := hb67.size; omega, by omega⟩) fun k hk => hb67.block k hk.2)
        rw [← hw7, ← hg6]
        clear hw7 hg6 hb67
        refine ⟨HS7.out, ?_⟩
        obtain ⟨x6a, x6b, y6a, y6b, x6z⟩ := block2' HX7.out
        refine H_one (i := 12) (by as_aux_lemma => kernel_rfl) rfl (by rfl) ?_
        go_simp
        refine ⟨(HS7.out.setCell HGW.out _).setCell HGW.out _, ?_⟩
        refine wpAnyH_done (by as_aux_lemma => kernel_rfl) ?_ _
        obtain ⟨w8, hw8⟩ : ∃ w8, w8 = (w7.setCell ⟨g6, 0, none⟩ (.slice a5 n5 k5)).setCell ⟨g6, 1, none⟩ (.slice a6 n6 k6) := ⟨_, rfl⟩
        have HB8 : Hid (Below W.heap.size W w8) := Lib.hid (by rw [hw8]; exact (HS7.out.setCell HGW.out _).setCell HGW.out _)
        have hx8 : w8.heap[g6]? = some (.cells #[.slice a5 n5 k5, .slice a6 n6 k6] 25) := by rw [hw8]; exact heap_set22 HX7.out
        have hsz8 : w8.heap.size = w7.heap.size := by rw [hw8]; simp
        have HV18 : Hid (RepI w8 (fun k => W.heap.size ≤ k ∧ k < w8.heap.size) (xl.map asInt) (.slice a5 n5 k5)) := Lib.hid (HV1.out.same (fun k hk => ⟨hk.1, by rw [hsz8]; exact hk.2.1⟩) fun k hk => by rw [hw8]; exact heap_far2 (fun e => hk.2.2 e.symm))
        have HV28 : Hid (RepI w8 (fun k => W.heap.size ≤ k ∧ k < w8.heap.size) (yl.map asInt) (.slice a6 n6 k6)) := Lib.hid (HV2.out.same (fun k hk => ⟨hk.1, by rw [hsz8]; exact hk.2.1⟩) fun k hk => by rw [hw8]; exact heap_far2 (fun e => hk.2.2 e.symm))
        have HX8 := Lib.hid hx8
        rw [← hw8]
        clear hw8 hsz8 x6a x6b y6a y6b x6z r0 r1 r2 r3 r4 r5 r6 hs0
        obtain ⟨x6a, x6b, y6a, y6b, x6z⟩ := block2' hx8
        clear hx8
        have HIC := Lib.hid (isConf_any ⟨xl.map asInt, yl.map asInt⟩ _ _ _ w8 HV18.out HV28.out (fun k hk => hk.2) (by have := HSZ.out; simp only [List.length_map]; omega))
        go_wp2_with fail
        refine HIC.out.mono ?_
        rintro e w9 ⟨rfl, hb9⟩
        have HB9 : Hid (Below W.heap.size W w9) := Lib.hid (HB8.out.trans (hb9.mono HB8.out.size))
        have HB89 : Hid (Below w8.heap.size w8 w9) := Lib.hid hb9
        have HX29 : Hid (w9.heap[g2]? = some (.cells #[.slice none 0 0, .slice none 0 0] 25)) := Lib.hid ((HB9.out.block g2 HG2N.out.2).trans HX2W.out)
        have HX69 : Hid (w9.heap[g6]? = some (.cells #[.slice a5 n5 k5, .slice a6 n6 k6] 25)) := Lib.hid (old_below HX8.out hb9)
        clear hb9 x6a x6b y6a y6b x6z x2a x2b y2a y2b x2z x4a x4b x4c y4a y4b y4c x4z
        obtain ⟨x6a, x6b, y6a, y6b, x6z⟩ := block2' HX69.out
        obtain ⟨x2a, x2b, y2a, y2b, x2z⟩ := block2' HX29.out
        obtain ⟨ok, hok⟩ : ∃ ok, ok = yes (Cf.mk (xl.map asInt) (yl.map asInt)).ok := ⟨_, rfl⟩
        rw [← hok] at HPC ⊢
        clear hok
        cases ok with
        | false =>
          go_wp2_with fail
          refine bodyPost_ret (results_row_tmp (P := Try.prog) Try.results6 _ _ g2 25 #[.slice none 0 0, .slice none 0 0] (0, 0) _ rfl (heap_set22 HX29.out) Try.underlying25 rfl (by kernel_rfl) _ rfl) rfl ⟨?_, by rw [HPC.out]; rfl⟩
          exact ((HBW.out.trans (HB9.out.mono HBW.out.size)).setCell HG2N.out.1 _).setCell HG2N.out.1 _
        | true =>
          go_wp2_with fail
          refine bodyPost_ret (results_row_tmp (P := Try.prog) Try.results6 _ _ g2 25 #[.slice a5 n5 k5, .slice a6 n6 k6] (0, 0) _ rfl (heap_set22 HX29.out) Try.underlying25 rfl (by kernel_rfl) _ rfl) rfl ⟨?_, ?_⟩
          · exact ((HBW.out.trans (HB9.out.mono HBW.out.size)).setCell HG2N.out.1 _).setCell HG2N.out.1 _
          · rw [HPC.out]
            refine ⟨_, _, rfl, ?_, ?_⟩
            · exact HV18.out.same (fun j hj => ⟨by have := HBW.out.size; omega, by have h2 := HB89.out.size; simp; omega⟩) fun j hj => (heap_far2 (by have := HG2N.out.2; omega)).trans (HB89.out.block j hj.2)
            · exact HV28.out.same (fun j hj => ⟨by have := HBW.out.size; omega, by have h2 := HB89.out.size; simp; omega⟩) fun j hj => (heap_far2 (by have := HG2N.out.2; omega)).trans (HB89.out.block j hj.2)
      · skip
        go_simp
        obtain ⟨w6, hw6⟩ : ∃ w6, w6 = w5.alloc (.cells #[.slice none 0 0, .slice none 0 0] 25) := ⟨_, rfl⟩
        obtain ⟨g6, hg6⟩ : ∃ g6, g6 = w5.heap.size := ⟨_, rfl⟩
        have hb56 : Below w5.heap.size w5 w6 := by rw [hw6]; exact below_alloc _ _
        have hsw6 : Below W.heap.size W w6 := hsw5.trans (hb56.mono hsw5.size)
        have HX6 : Hid (w6.heap[g6]? = some (.cells #[.slice none 0 0, .slice none 0 0] 25)) := Lib.hid (by rw [hw6]; exact heap_new _ _ _ hg6)
        have HGW : Hid (W.heap.size ≤ g6) := Lib.hid (by rw [hg6]; exact hsw5.size)
        have HB56 := Lib.hid hb56
        have HG6 : Hid (g6 = w5.heap.size) := Lib.hid hg6
        rw [← hw6, ← hg6]
        clear hw6 hg6 hb56
        refine ⟨hsw6, ?_⟩
        refine H_one (i := 9) (by as_aux_lemma => kernel_rfl) rfl (by rfl) ?_
        go_simp
        refine (HC2.out w6 hsw6).mono ?_
        rintro e w7 ⟨u6, rfl, hb6, hr6⟩
        obtain ⟨a6, k6, hv6, -⟩ := hr6.slice
        obtain ⟨n6, hn6⟩ : ∃ n6, n6 = (yl.map asInt).length := ⟨_, rfl⟩
        rw [← hn6] at hv6
        subst hv6
        have hsw7 : Below W.heap.size W w7 := hsw6.trans (hb6.mono hsw6.size)
        have HR6 := Lib.hid hr6
        have HBB6 : Hid (Below (w6).heap.size (w6) w7) := Lib.hid hb6
        clear hr6 hb6 hn6
        refine ⟨hsw7, ?_⟩
        go_simp
        refine H_take (i := 10) (v := ?_) rfl (by as_aux_lemma => kernel_rfl) (by as_aux_lemma => kernel_rfl) (by as_aux_lemma => kernel_rfl) (fun _ _ _ h => h) (by rfl) hsw7 ?_ ?_
        rotate_left
        · intro w' hw'; go_simp; with_reducible rfl
        go_simp
        have HS7 := Lib.hid hsw7
        have HX7 : Hid (w7.heap[g6]? = some (.cells #[.slice none 0 0, .slice none 0 0] 25)) := Lib.hid (old_below HX6.out HBB6.out)
        have HV1 : Hid (RepI w7 (fun k => W.heap.size ≤ k ∧ k < w7.heap.size ∧ k ≠ g6) (xl.map asInt) (.slice a5 n5 k5)) := Lib.hid (HR5.out.same (fun k hk => ⟨hk.1, by have := HBB6.out.size; have := HB56.out.size; omega, by have := HG6.out; omega⟩) fun k hk => (HBB6.out.block k (by have := HB56.out.size; omega)).trans (HB56.out.block k hk.2))
        have HV2 : Hid (RepI w7 (fun k => W.heap.size ≤ k ∧ k < w7.heap.size ∧ k ≠ g6) (yl.map asInt) (.slice a6 n6 k6)) := Lib.hid (HR6.out.same (fun k hk => ⟨by have := hsw6.size; omega, hk.2, by have := lt_of_heap HX6.out; omega⟩) fun _ _ => rfl)
        obtain ⟨x6a, x6b, y6a, y6b, x6z⟩ := block2' HX7.out
        refine H_one (i := 12) (by as_aux_lemma => kernel_rfl) rfl (by rfl) ?_
        go_simp
        refine ⟨(HS7.out.setCell HGW.out _).setCell HGW.out _, ?_⟩
        refine wpAnyH_done (by as_aux_lemma => kernel_rfl) ?_ _
        obtain ⟨w8, hw8⟩ : ∃ w8, w8 = (w7.setCell ⟨g6, 0, none⟩ (.slice a5 n5 k5)).setCell ⟨g6, 1, none⟩ (.slice a6 n6 k6) := ⟨_, rfl⟩
        have HB8 : Hid (Below W.heap.size W w8) := Lib.hid (by rw [hw8]; exact (HS7.out.setCell HGW.out _).setCell HGW.out _)
        have hx8 : w8.heap[g6]? = some (.cells #[.slice a5 n5 k5, .slice a6 n6 k6] 25) := by rw [hw8]; exact heap_set22 HX7.out
        have hsz8 : w8.heap.size = w7.heap.size := by rw [hw8]; simp
        have HV18 : Hid (RepI w8 (fun k => W.heap.size ≤ k ∧ k < w8.heap.size) (xl.map asInt) (.slice a5 n5 k5)) := Lib.hid (HV1.out.same (fun k hk => ⟨hk.1, by rw [hsz8]; exact hk.2.1⟩) fun k hk => by rw [hw8]; exact heap_far2 (fun e => hk.2.2 e.symm))
        have HV28 : Hid (RepI w8 (fun k => W.heap.size ≤ k ∧ k < w8.heap.size) (yl.map asInt) (.slice a6 n6 k6)) := Lib.hid (HV2.out.same (fun k hk => ⟨hk.1, by rw [hsz8]; exact hk.2.1⟩) fun k hk => by rw [hw8]; exact heap_far2 (fun e => hk.2.2 e.symm))
        have HX8 := Lib.hid hx8
        rw [← hw8]
        clear hw8 hsz8 x6a x6b y6a y6b x6z r0 r1 r2 r3 r4 r5 r6 hs0
        obtain ⟨x6a, x6b, y6a, y6b, x6z⟩ := block2' hx8
        clear hx8
        have HIC := Lib.hid (isConf_any ⟨xl.map asInt, yl.map asInt⟩ _ _ _ w8 HV18.out HV28.out (fun k hk => hk.2) (by have := HSZ.out; simp only [List.length_map]; omega))
        go_wp2_with fail
        refine HIC.out.mono ?_
        rintro e w9 ⟨rfl, hb9⟩
        have HB9 : Hid (Below W.heap.size W w9) := Lib.hid (HB8.out.trans (hb9.mono HB8.out.size))
        have HB89 : Hid (Below w8.heap.size w8 w9) := Lib.hid hb9
        have HX29 : Hid (w9.heap[g2]? = some (.cells #[.slice none 0 0, .slice none 0 0] 25)) := Lib.hid ((HB9.out.block g2 HG2N.out.2).trans HX2W.out)
        have HX69 : Hid (w9.heap[g6]? = some (.cells #[.slice a5 n5 k5, .slice a6 n6 k6] 25)) := Lib.hid (old_below HX8.out hb9)
        clear hb9 x6a x6b y6a y6b x6z x2a x2b y2a y2b x2z x4a x4b x4c y4a y4b y4c x4z
        obtain ⟨x6a, x6b, y6a, y6b, x6z⟩ := block2' HX69.out
        obtain ⟨x2a, x2b, y2a, y2b, x2z⟩ := block2' HX29.out
        obtain ⟨ok, hok⟩ : ∃ ok, ok = yes (Cf.mk (xl.map asInt) (yl.map asInt)).ok := ⟨_, rfl⟩
        rw [← hok] at HPC ⊢
        clear hok
        cases ok with
        | false =>
          go_wp2_with fail
          refine bodyPost_ret (results_row_tmp (P := Try.prog) Try.results6 _ _ g2 25 #[.slice none 0 0, .slice none 0 0] (0, 0) _ rfl (heap_set22 HX29.out) Try.underlying25 rfl (by kernel_rfl) _ rfl) rfl ⟨?_, by rw [HPC.out]; rfl⟩
          exact ((HBW.out.trans (HB9.out.mono HBW.out.size)).setCell HG2N.out.1 _).setCell HG2N.out.1 _
        | true =>
          go_wp2_with fail
          refine bodyPost_ret (results_row_tmp (P := Try.prog) Try.results6 _ _ g2 25 #[.slice a5 n5 k5, .slice a6 n6 k6] (0, 0) _ rfl (heap_set22 HX29.out) Try.underlying25 rfl (by kernel_rfl) _ rfl) rfl ⟨?_, ?_⟩
          · exact ((HBW.out.trans (HB9.out.mono HBW.out.size)).setCell HG2N.out.1 _).setCell HG2N.out.1 _
          · rw [HPC.out]
            refine ⟨_, _, rfl, ?_, ?_⟩
            · exact HV18.out.same (fun j hj => ⟨by have := HBW.out.size; omega, by have h2 := HB89.out.size; simp; omega⟩) fun j hj => (heap_far2 (by have := HG2N.out.2; omega)).trans (HB89.out.block j hj.2)
            · exact HV28.out.same (fun j hj => ⟨by have := HBW.out.size; omega, by have h2 := HB89.out.size; simp; omega⟩) fun j hj => (heap_far2 (by have := HG2N.out.2; omega)).trans (HB89.out.block j hj.2)
    · skip
      go_simp
      obtain ⟨w5, hw5⟩ : ∃ w5, w5 = W.drew.alloc (.cells #[.slice none 0 0, .slice none 0 0] 25) := ⟨_, rfl⟩
      have hsw5 : Below W.heap.size W w5 := by rw [hw5]; exact hs0.alloc (Nat.le_refl _) _
      have HX5 : Hid (w5.heap[W.heap.size]? = some (.cells #[.slice none 0 0, .slice none 0 0] 25)) := Lib.hid (by rw [hw5]; exact heap_new _ _ _ rfl)
      have HGW : Hid (W.heap.size ≤ W.heap.size) := Lib.hid (Nat.le_refl _)
      rw [show (W.alloc (.cells #[.slice none 0 0, .slice none 0 0] 25)).drew = w5 from by rw [hw5]; rfl]
      clear hw5
      refine ⟨hsw5, ?_⟩
      refine H_one (i := 4) (by as_aux_lemma => kernel_rfl) rfl (by rfl) ?_
      go_simp
      refine (HC1.out w5 hsw5).mono ?_
      rintro e w6 ⟨u5, rfl, hb5, hr5⟩
      obtain ⟨a5, k5, hv5, -⟩ := hr5.slice
      obtain ⟨n5, hn5⟩ : ∃ n5, n5 = (xl.map asInt).length := ⟨_, rfl⟩
      rw [← hn5] at hv5
      subst hv5
      have hsw6 : Below W.heap.size W w6 := hsw5.trans (hb5.mono hsw5.size)
      have HR5 := Lib.hid hr5
      have HBB5 : Hid (Below (w5).heap.size (w5) w6) := Lib.hid hb5
      clear hr5 hb5 hn5
      refine ⟨hsw6, ?_⟩
      go_simp
      refine H_one (i := 9) (by as_aux_lemma => kernel_rfl) rfl (by rfl) ?_
      go_simp
      refine (HC2.out w6 hsw6).mono ?_
      rintro e w7 ⟨u6, rfl, hb6, hr6⟩
      obtain ⟨a6, k6, hv6, -⟩ := hr6.slice
      obtain ⟨n6, hn6⟩ : ∃ n6, n6 = (yl.map asInt).length := ⟨_, rfl⟩
      rw [← hn6] at hv6
      subst hv6
      have hsw7 : Below W.heap.size W w7 := hsw6.trans (hb6.mono hsw6.size)
      have HR6 := Lib.hid hr6
      have HBB6 : Hid (Below (w6).heap.size (w6) w7) := Lib.hid hb6
      clear hr6 hb6 hn6
      refine ⟨hsw7, ?_⟩
      go_simp
      refine H_take (i := 10) (v := ?_) rfl (by as_aux_lemma => kernel_rfl) (by as_aux_lemma => kernel_rfl) (by as_aux_lemma => kernel_rfl) (fun _ _ _ h => h) (by rfl) hsw7 ?_ ?_
      rotate_left
      · intro w' hw'; go_simp; with_reducible rfl
      go_simp
      have HS7 := Lib.hid hsw7
      have HX7 : Hid (w7.heap[W.heap.size]? = some (.cells #[.slice none 0 0, .slice none 0 0] 25)) := Lib.hid (old_below (old_below HX5.out HBB5.out) HBB6.out)
      have HV1 : Hid (RepI w7 (fun k => W.heap.size ≤ k ∧ k < w7.heap.size ∧ k ≠ W.heap.size) (xl.map asInt) (.slice a5 n5 k5)) := Lib.hid (HR5.out.same (fun k hk => ⟨by have := hsw5.size; omega, by have := HBB6.out.size; omega, by have := lt_of_heap HX5.out; omega⟩) fun k hk => HBB6.out.block k hk.2)
      have HV2 : Hid (RepI w7 (fun k => W.heap.size ≤ k ∧ k < w7.heap.size ∧ k ≠ W.heap.size) (yl.map asInt) (.slice a6 n6 k6)) := Lib.hid (HR6.out.same (fun k hk => ⟨by have := hsw6.size; omega, hk.2, by have := lt_of_heap HX5.out; have := HBB5.out.size; omega⟩) fun _ _ => rfl)
      obtain ⟨x6a, x6b, y6a, y6b, x6z⟩ := block2' HX7.out
      refine H_one (i := 12) (by as_aux_lemma => kernel_rfl) rfl (by rfl) ?_
      go_simp
      refine ⟨(HS7.out.setCell HGW.out _).setCell HGW.out _, ?_⟩
      refine wpAnyH_done (by as_aux_lemma => kernel_rfl) ?_ _
      obtain ⟨w8, hw8⟩ : ∃ w8, w8 = (w7.setCell ⟨W.heap.size, 0, none⟩ (.slice a5 n5 k5)).setCell ⟨W.heap.size, 1, none⟩ (.slice a6 n6 k6) := ⟨_, rfl⟩
      have HB8 : Hid (Below W.heap.size W w8) := Lib.hid (by rw [hw8]; exact (HS7.out.setCell HGW.out _).setCell HGW.out _)
      have hx8 : w8.heap[W.heap.size]? = some (.cells #[.slice a5 n5 k5, .slice a6 n6 k6] 25) := by rw [hw8]; exact heap_set22 HX7.out
      have hsz8 : w8.heap.size = w7.heap.size := by rw [hw8]; simp
      have HV18 : Hid (RepI w8 (fun k => W.heap.size ≤ k ∧ k < w8.heap.size) (xl.map asInt) (.slice a5 n5 k5)) := Lib.hid (HV1.out.same (fun k hk => ⟨hk.1, by rw [hsz8]; exact hk.2.1⟩) fun k hk => by rw [hw8]; exact heap_far2 (fun e => hk.2.2 e.symm))
      have HV28 : Hid (RepI w8 (fun k => W.heap.size ≤ k ∧ k < w8.heap.size) (yl.map asInt) (.slice a6 n6 k6)) := Lib.hid (HV2.out.same (fun k hk => ⟨hk.1, by rw [hsz8]; exact hk.2.1⟩) fun k hk => by rw [hw8]; exact heap_far2 (fun e => hk.2.2 e.symm))
      have HX8 := Lib.hid hx8
      rw [← hw8]
      clear hw8 hsz8 x6a x6b y6a y6b x6z r0 r1 r2 r3 r4 r5 r6 hs0
      obtain ⟨x6a, x6b, y6a, y6b, x6z⟩ := block2' hx8
      clear hx8
      have HIC := Lib.hid (isConf_any ⟨xl.map asInt, yl.map asInt⟩ _ _ _ w8 HV18.out HV28.out (fun k hk => hk.2) (by have := HSZ.out; simp only [List.length_map]; omega))
      go_wp2_with fail
      refine HIC.out.mono ?_
      rintro e w9 ⟨rfl, hb9⟩
      have HB9 : Hid (Below W.heap.size W w9) := Lib.hid (HB8.out.trans (hb9.mono HB8.out.size))
      have HB89 : Hid (Below w8.heap.size w8 w9) := Lib.hid hb9
      have HX29 : Hid (w9.heap[g2]? = some (.cells #[.slice none 0 0, .slice none 0 0] 25)) := Lib.hid ((HB9.out.block g2 HG2N.out.2).trans HX2W.out)
      have HX69 : Hid (w9.heap[W.heap.size]? = some (.cells #[.slice a5 n5 k5, .slice a6 n6 k6] 25)) := Lib.hid (old_below HX8.out hb9)
      clear hb9 x6a x6b y6a y6b x6z x2a x2b y2a y2b x2z x4a x4b x4c y4a y4b y4c x4z
      obtain ⟨x6a, x6b, y6a, y6b, x6z⟩ := block2' HX69.out
      obtain ⟨x2a, x2b, y2a, y2b, x2z⟩ := block2' HX29.out
      obtain ⟨ok, hok⟩ : ∃ ok, ok = yes (Cf.mk (xl.map asInt) (yl.map asInt)).ok := ⟨_, rfl⟩
      rw [← hok] at HPC ⊢
      clear hok
      cases ok with
      | false =>
        go_wp2_with fail
        refine bodyPost_ret (results_row_tmp (P := Try.prog) Try.results6 _ _ g2 25 #[.slice none 0 0, .slice none 0 0] (0, 0) _ rfl (heap_set22 HX29.out) Try.underlying25 rfl (by kernel_rfl) _ rfl) rfl ⟨?_, by rw [HPC.out]; rfl⟩
        exact ((HBW.out.trans (HB9.out.mono HBW.out.size)).setCell HG2N.out.1 _).setCell HG2N.out.1 _
      | true =>
        go_wp2_with fail
        refine bodyPost_ret (results_row_tmp (P := Try.prog) Try.results6 _ _ g2 25 #[.slice a5 n5 k5, .slice a6 n6 k6] (0, 0) _ rfl (heap_set22 HX29.out) Try.underlying25 rfl (by kernel_rfl) _ rfl) rfl ⟨?_, ?_⟩
        · exact ((HBW.out.trans (HB9.out.mono HBW.out.size)).setCell HG2N.out.1 _).setCell HG2N.out.1 _
        · rw [HPC.out]
          refine ⟨_, _, rfl, ?_, ?_⟩
          · exact HV18.out.same (fun j hj => ⟨by have := HBW.out.size; omega, by have h2 := HB89.out.size; simp; omega⟩) fun j hj => (heap_far2 (by have := HG2N.out.2; omega)).trans (HB89.out.block j hj.2)
          · exact HV28.out.same (fun j hj => ⟨by have := HBW.out.size; omega, by have h2 := HB89.out.size; simp; omega⟩) fun j hj => (heap_far2 (by have := HG2N.out.2; omega)).trans (HB89.out.block j hj.2)
end Go.Proofs.Ytdngfbljcmbniaa.M

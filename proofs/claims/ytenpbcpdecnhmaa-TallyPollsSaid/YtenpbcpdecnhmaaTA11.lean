/- The law TallyPolls. -/
import Derived.Test.YtenpbcpdecnhmaaTA10
import Derived.Deep.RegionHeld
import Derived.Deep.CutRange
namespace Go.Proofs.Ytenpbcpdecnhmaa.M
open Go.RowKit

theorem IR.put {base g n c : Nat} {l : List Int} {w : World} (h : IR base l (.slice (some ⟨g, 0, none⟩) n c) w) (hn : n = l.length) (j : Nat) {x : Int} (hx : -9223372036854775808 ≤ x ∧ x ≤ 9223372036854775807) : IR base (l.set j x) (.slice (some ⟨g, 0, none⟩) n c) (w.setCell ⟨g, j, none⟩ (.int .i64 x)) := by
  subst hn
  refine ⟨?_, fun y hy => ?_⟩
  · rw [List.length_set, List.map_set]
    exact (h.own.stored j (intV x)).1
  · rcases List.mem_or_eq_of_mem_set hy with hy | rfl
    · exact h.rng y hy
    · exact hx

theorem IR.lit0 {base : Nat} {w : World} {g : Nat} (hb : base ≤ w.heap.size) (hg : g = w.heap.size) : IR base [] (.slice (some ⟨g, 0, none⟩) 0 0) (w.alloc (.cells #[] 3)) := by
  subst hg
  exact IR.of_block rfl hb (heap_alloc_new w _) (by simp) (by omega) rfl rfl (fun _ h => by simp at h)

set_option maxRecDepth 20000 in
set_option maxHeartbeats 12800000 in
theorem TallyPolls_any (V Ls : List Int) (ms : List (Bool × Int)) (vv lv mv : Value) (w : World) (hv : RepI w (fun k => k < w.heap.size) V vv) (hl : RepI w (fun k => k < w.heap.size) Ls lv) (hm : RepSd w (fun k => k < w.heap.size) ms mv) :
    Calls Try.prog 5 #[.agg #[vv, lv], mv] w fun e w' => e = .returned (.bool true) ∧ Below w.heap.size w w' := by
  obtain ⟨a, k, rfl, -⟩ := hv.slice
  obtain ⟨a', k', rfl, -⟩ := hl.slice
  obtain ⟨ma, mk, rfl, hqb, hqc⟩ := hm.slice
  obtain ⟨n, hn⟩ : ∃ n, n = V.length := ⟨_, rfl⟩
  obtain ⟨m, hm2⟩ : ∃ m, m = Ls.length := ⟨_, rfl⟩
  obtain ⟨q, hq⟩ : ∃ q, q = ms.length := ⟨_, rfl⟩
  rw [← hn] at hv ⊢
  rw [← hm2] at hl ⊢
  rw [← hq] at hm hqb ⊢
  obtain ⟨W, hW⟩ : ∃ W, W = w.alloc (.cells #[.slice a n k, .slice a' m k'] 24) := ⟨_, rfl⟩
  have HB : Hid (Below w.heap.size w W) := Lib.hid (by rw [hW]; exact below_alloc _ _)
  obtain ⟨g, hg⟩ : ∃ g, g = w.heap.size := ⟨_, rfl⟩
  have HBX : Hid (W.heap[g]? = some (.cells #[.slice a n k, .slice a' m k'] 24)) := Lib.hid (by rw [hW, hg]; exact heap_alloc_new w _)
  have HV := Lib.hid hv
  have HL := Lib.hid hl
  have HM := Lib.hid hm
  have HN := Lib.hid hn
  have HM2 := Lib.hid hm2
  have HQ := Lib.hid hq
  have HW := Lib.hid hW
  have HG := Lib.hid hg
  clear hv hl hm hn hm2 hq hW hg
  go_enter Try.func5, Try.ntmps5
  go_wp2_with fail
  rw [← HG.out, ← HW.out]
  refine (awake9_any W).mono ?_
  rintro e w2 ⟨rfl, hb2⟩
  have HB2 : Hid (Below w.heap.size w w2) := Lib.hid (HB.out.trans (hb2.mono HB.out.size))
  have HBX2 := Lib.hid (old_below HBX.out hb2)
  obtain ⟨c0, c1, -, -, cz⟩ := block2' HBX2.out
  clear hb2
  go_wp2_with fail
  have HS := Lib.hid (small_any V Ls (fun k => k < w.heap.size) _ _ w2 (HV.out.below (fun k hk => hk) HB2.out) (HL.out.below (fun k hk => hk) HB2.out))
  rw [← HN.out, ← HM2.out] at HS
  refine HS.out.mono ?_
  rintro e w3 ⟨rfl, hb3⟩
  have HB3 : Hid (Below w.heap.size w w3) := Lib.hid (HB2.out.trans (hb3.mono HB2.out.size))
  have HBX3 := Lib.hid (old_below HBX2.out hb3)
  clear hb3 c0 c1 cz HS
  by_cases hs : n ≤ 60 ∧ m ≤ 60
  · rw [decide_eq_true hs]
    by_cases hp : q > 100
    · have q1 : decide ((q : Int) > 100) = true := decide_eq_true (by omega)
      go_wp2_with fail
      refine (awake9_any _).mono ?_
      rintro e w5 ⟨rfl, hb5⟩
      have HB5 : Hid (Below w.heap.size w w5) := Lib.hid (HB3.out.trans (hb5.mono HB3.out.size))
      clear hb5
      go_wp2_with fail
      go_ret
      exact ⟨rfl, HB5.out⟩
    have q1 : decide ((q : Int) > 100) = false := decide_eq_false (by omega)
    obtain ⟨c0, c1, -, -, cz⟩ := block2' HBX3.out
    have HSM : Hid (V.length ≤ 60 ∧ ms.length ≤ 100) := Lib.hid (by rw [← HN.out, ← HQ.out]; omega)
    have HMB : Hid (∀ w' : World, Below w3.heap.size w3 w' → RepSd w' (fun k => k < w.heap.size) ms (.slice ma q mk)) := Lib.hid fun w' hb' => HM.out.below (fun k hk => hk) (HB3.out.trans (hb'.mono HB3.out.size))
    have HVB : Hid (∀ w' : World, Below w3.heap.size w3 w' → RepI w' (fun k => k < w.heap.size) V (.slice a n k)) := Lib.hid fun w' hb' => HV.out.below (fun k hk => hk) (HB3.out.trans (hb'.mono HB3.out.size))
    have HLB : Hid (∀ w' : World, Below w3.heap.size w3 w' → RepI w' (fun k => k < w.heap.size) Ls (.slice a' m k')) := Lib.hid fun w' hb' => HL.out.below (fun k hk => hk) (HB3.out.trans (hb'.mono HB3.out.size))
    have HRS : Hid (∀ (l : List (Bool × Int)) (G : Nat → Prop) (lv : Value) (w' : World), l.length ≤ 1000000 → Below w3.heap.size w3 w' → RepSd w' G l lv → (∀ k, G k → k < w'.heap.size) → Calls Try.prog 15 #[.agg #[.slice a n k, .slice a' m k'], lv] w' fun e w'' => e = .returned (.int .i64 (standOf V l)) ∧ Below w'.heap.size w' w'') := Lib.hid fun l G lv w' hl hb' hr hG =>
      RefStands_any V Ls l (fun k => k < w.heap.size) G _ _ _ w' (HVB.out w' hb') (HLB.out w' hb') (fun k hk => Nat.lt_of_lt_of_le hk (HB3.out.trans (hb'.mono HB3.out.size)).size) hr hG (by have := HSM.out; omega) hl
    have hn60 : n ≤ 60 := hs.1
    clear hs
    go_wp2_with (at_builtin; refine wpList_ir_append rfl (.tmp 24) (.tmp 26) rfl rfl (base := w3.heap.size) (L := []) (L2 := V) rfl (IR.lit0 (Nat.le_refl _) rfl) (by simp) rfl (HVB.out _ (below_alloc w3 _)) (by have := HSM.out; simp; omega) ?_)
    intro v4 w4 ht4
    have HO4 : Hid (OwnI w3 V v4 w4) := Lib.hid (OwnI.turned (wr := w3.alloc (.cells #[] 3)) ⟨below_alloc _ _, IR.lit0 (Nat.le_refl _) rfl⟩ ht4)
    obtain ⟨a4, c4, hv4⟩ := ht4.1.slice
    rw [← HN.out] at hv4
    subst hv4
    clear ht4
    obtain ⟨gi, hgi⟩ : ∃ gi, gi = w4.heap.size := ⟨_, rfl⟩
    obtain ⟨w5, hw5⟩ : ∃ w5, w5 = w4.alloc (.cells #[.slice a4 n c4, .slice none 0 0] 24) := ⟨_, rfl⟩
    have hb5 : Below w4.heap.size w4 w5 := by rw [hw5]; exact below_alloc _ _
    have hx5 : w5.heap[gi]? = some (.cells #[.slice a4 n c4, .slice none 0 0] 24) := by rw [hw5]; exact heap_new _ _ _ hgi
    have HO5 := Lib.hid (HO4.out.next hb5)
    have HNP := Lib.hid (NewPoll_any V [] (fun b => b < w5.heap.size) (.slice a4 n c4) (.slice none 0 0) w5 (HO5.out.2.rep.same (fun _ hk => hk.2) fun _ _ => rfl) (.inl ⟨rfl, Bare.nil⟩) (fun k hk => hk) (by have := HSM.out; omega))
    have HGI : Hid (gi = w4.heap.size ∧ w5.heap.size = gi + 1) := Lib.hid ⟨hgi, by rw [hw5, hgi]; simp⟩
    have HG4 : Hid (w4.heap.size = gi) := Lib.hid hgi.symm
    have HNS : Hid (w3.heap.size ≤ gi) := Lib.hid (by rw [hgi]; exact HO4.out.1.size)
    have HW5 := Lib.hid hw5
    have HX5 := Lib.hid hx5
    clear hgi hw5 hb5 hx5 c0 c1 cz
    go_wp2_with fail
    rw [← HW5.out, HG4.out]
    refine HNP.out.mono ?_
    rintro e w6 ⟨gp, gm, rfl, hb6, hgp, hgm, hpl⟩
    have HP6 := Lib.hid hpl
    have HO6 := Lib.hid (HO5.out.next hb6)
    have HX6 := Lib.hid (old_below HX5.out hb6)
    have HGP : Hid (w5.heap.size ≤ gp ∧ w5.heap.size ≤ gm) := Lib.hid ⟨hgp, hgm⟩
    have HNG : Hid (∀ gr, Value.ownBlock (.slice a4 n c4) = some gr → w3.heap.size ≤ gr ∧ gr < gi) := Lib.hid fun gr hgr => by
      have := HO4.out.2.own.lt gr hgr
      have := HG4.out
      omega
    clear hpl hb6 hgp hgm HNP HO4 HO5 HX5 HW5
    go_wp2_with fail
    go_loopg [7] n (fun gk i wr => ∃ z : Nat, z + gk = n ∧ i = .int .i64 (z : Int) ∧ Hid (Only (fun j => Value.ownBlock (.slice a4 n c4) = some j) w6 wr ∧ ∃ L', L'.length = n ∧ IR w3.heap.size L' (.slice a4 n c4) wr))
    case atStart => exact ⟨0, by omega, rfl, Lib.hid ⟨Only.refl _ _, V, HN.out.symm, HO6.out.2⟩⟩
    case round =>
      obtain ⟨z, hz, rfl, HR⟩ := hrel
      have hxr : wr.heap[gi]? = some (.cells #[.slice a4 n c4, .slice none 0 0] 24) := (HR.out.1.block gi (lt_of_heap HX6.out) fun e => by have := HNG.out gi e; omega).trans HX6.out
      have HXR := Lib.hid hxr
      obtain ⟨c0, c1, -, -, cz⟩ := block2' hxr
      clear hxr
      by_cases hlt : z < n
      · have hzz : (z : Int) < (n : Int) := by omega
        obtain ⟨L', hL', hir⟩ := HR.out.2
        rcases hir.split with ⟨rfl, -⟩ | ⟨gr, cap, cur, hv, hbg, hlg, hcur, h1, h2, h3, h4⟩
        · simp at hL'; omega
        · have hgr : a4 = some ⟨gr, 0, none⟩ := by cases hv; rfl
          subst hgr
          have hput := hir.put (by rw [hL']) z (x := -7) (by omega)
          have fz := frozen_of_row wr gr z _ _ hcur
          have hcell : ∃ u, wr.cell? ⟨gr, z, none⟩ = some u := by
            have hz3 : z < cur.size := by omega
            exact ⟨_, (cell_of_row wr gr z _ _ _ hcur).trans (Array.getElem?_eq_getElem hz3)⟩
          obtain ⟨u, hu⟩ := hcell
          have HNX : Hid (Only (fun j => Value.ownBlock (.slice (some ⟨gr, 0, none⟩) n c4) = some j) w6 (wr.setCell ⟨gr, z, none⟩ (.int .i64 (-7))) ∧ ∃ L', L'.length = n ∧ IR w3.heap.size L' (.slice (some ⟨gr, 0, none⟩) n c4) (wr.setCell ⟨gr, z, none⟩ (.int .i64 (-7)))) := Lib.hid ⟨HR.out.1.set (.inl rfl) _, L'.set z (-7), by rw [List.length_set, hL'], hput⟩
          clear hput hir hv hcur h1 h2 h3 h4 hL'
          go_wp2_with fail
          go_roundg (gk - 1)
          case measure => omega
          case rel => exact ⟨z + 1, by omega, by go_num, HNX⟩
      · obtain rfl : z = n := by omega
        have hzz : ¬ ((z : Nat) : Int) < (z : Int) := by omega
        have HP7 : Hid (PollAt wr gp gm V []) := Lib.hid (HP6.out.same (HR.out.1.block gp HP6.out.lt.1 fun e => by have := HNG.out gp e; have := HGI.out; have := HGP.out; omega) (HR.out.1.block gm HP6.out.lt.2 fun e => by have := HNG.out gm e; have := HGI.out; have := HGP.out; omega))
        have HB7 : Hid (Below w3.heap.size w3 wr) := Lib.hid (below_only HO6.out.1 HR.out.1 fun k hk => (HNG.out k hk).1)
        have hst := Stands_any V [] gp gm wr HP7.out (by have := HSM.out; omega)
        have HST := Lib.hid hst
        clear HR hst HO6 HX6 HP6 HXR
        go_wp2_with fail
        refine HST.out.mono ?_
        rintro e w8 ⟨rfl, hb8, hh8⟩
        have HP8 : Hid (PollAt w8 gp gm V []) := Lib.hid (HP7.out.same (by rw [hh8]) (by rw [hh8]))
        have HB8 : Hid (Below w3.heap.size w3 w8) := Lib.hid (HB7.out.trans (hb8.mono HB7.out.size))
        clear hb8 hh8 HST HP7 HB7 c0 c1 cz
        obtain ⟨c0, c1, -, -, cz⟩ := block2' (old_below HBX3.out HB8.out)
        have HRS0 := Lib.hid (HRS.out [] (fun _ => False) (.slice none 0 0) w8 (by simp) HB8.out (.inl ⟨rfl, Bare.nil⟩) (fun k hk => hk.elim))
        obtain ⟨s0, hs0⟩ : ∃ s0, s0 = standOf V [] := ⟨_, rfl⟩
        rw [← hs0] at HRS0 ⊢
        have qs : (s0 != s0) = false := by simp
        have HS0 := Lib.hid hs0
        clear hs0
        go_wp2_with fail
        refine HRS0.out.mono ?_
        rintro e w9 ⟨rfl, hb9⟩
        have HP9 : Hid (PollAt w9 gp gm V []) := Lib.hid (HP8.out.next hb9)
        have HB9 : Hid (Below w3.heap.size w3 w9) := Lib.hid (HB8.out.trans (hb9.mono HB8.out.size))
        clear hb9 HRS0 HP8 HB8 c0 c1 cz
        go_wp2_with fail
        have HGW : Hid (w3.heap.size ≤ gp ∧ w3.heap.size ≤ gm) := Lib.hid (by
          have := HGP.out
          have := HGI.out
          have h2 := HNS.out
          omega)
        have HK : Hid (∀ w', Only (fun j => j = gp ∨ j = gm) w9 w' → Below w3.heap.size w3 w') := Lib.hid fun w' ho => below_only HB9.out ho fun k hk => by have := HGW.out; rcases hk with hk | hk <;> omega
        have hq100 : q ≤ 100 := by omega
        go_loopg [8, 9] q (fun gk la i wr => ∃ t : Nat, t + gk = q ∧ i = .int .i64 (t : Int) ∧ la = .int .i64 (standOf V (ms.take t)) ∧ Hid (Only (fun j => j = gp ∨ j = gm) w9 wr ∧ PollAt wr gp gm V (ms.take t)))
        case atStart => exact ⟨0, by omega, rfl, by rw [HS0.out]; simp, Lib.hid ⟨Only.refl _ _, by simpa using HP9.out⟩⟩
        case round =>
          obtain ⟨t, ht, rfl, rfl, HT⟩ := hrel
          by_cases hlt2 : t < q
          · have htt : (t : Int) < (q : Int) := by omega
            have ht3 : t < ms.length := by rw [← HQ.out]; exact hlt2
            obtain ⟨lb, lo, rfl, hlb, f0, f1, hr⟩ := (HMB.out wr (HK.out wr HT.out.1)).elem t ht3
            obtain ⟨yb, hyb⟩ : ∃ yb, yb = ms[t].1 := ⟨_, rfl⟩
            obtain ⟨id, hid⟩ : ∃ id, id = ms[t].2 := ⟨_, rfl⟩
            rw [← hyb] at f0
            rw [← hid] at f1 hr
            have HR := Lib.hid hr
            have HTK : Hid (ms.take (t + 1) = ms.take t ++ [(yb, id)]) := Lib.hid (by rw [List.take_add_one, List.getElem?_eq_getElem ht3, Option.toList_some, hyb, hid])
            have hlw : lb < w9.heap.size ∧ lb ≠ gp ∧ lb ≠ gm := by
              have := (HB3.out.trans (HB9.out.mono HB3.out.size)).size
              have h2 := HB3.out.size
              have h3 := HGW.out
              have h4 : lb < w.heap.size := hlb
              omega
            have HCE : Hid (∀ w' : World, Only (fun j => j = gp ∨ j = gm) wr w' → w'.cell? ⟨lb, lo + t * 2, none⟩ = some (.bool yb) ∧ w'.cell? ⟨lb, lo + t * 2 + 1, none⟩ = some (.int .i64 id)) := Lib.hid fun w' ho => by
              have hk : w'.heap[lb]? = wr.heap[lb]? := ho.block lb (Nat.lt_of_lt_of_le hlw.1 HT.out.1.size) fun e => by omega
              exact ⟨(World.cell?_of_block (a := ⟨lb, lo + t * 2, none⟩) hk).trans f0, (World.cell?_of_block (a := ⟨lb, lo + t * 2 + 1, none⟩) hk).trans f1⟩
            clear hyb hid hr f0 f1
            have r0 : ∀ w' : World, Only (fun j => j = gp ∨ j = gm) wr w' → w'.cell? ⟨lb, lo + t * 2, none⟩ = some (.bool yb) := fun w' ho => (HCE.out w' ho).1
            have r1 : ∀ w' : World, Only (fun j => j = gp ∨ j = gm) wr w' → w'.cell? ⟨lb, lo + t * 2 + 1, none⟩ = some (.int .i64 id) := fun w' ho => (HCE.out w' ho).2
            have hS : Only (fun j => j = gp ∨ j = gm) wr wr.drew := (Only.refl _ _).drawn
            go_wp2_with fail
            refine wp_region_held (S := fun w' => Only (fun j => j = gp ∨ j = gm) wr w') (by kernel_rfl) ?_
            refine H_take (i := 0) (v := ?_) rfl (by as_aux_lemma => kernel_rfl) (by as_aux_lemma => kernel_rfl) (by as_aux_lemma => kernel_rfl) (fun _ _ _ h => h) (by rfl) hS ?_ ?_
            rotate_left
            · intro w' hw'; go_simp; with_reducible rfl
            go_simp
            refine H_take (i := 1) (v := ?_) rfl (by as_aux_lemma => kernel_rfl) (by as_aux_lemma => kernel_rfl) (by as_aux_lemma => kernel_rfl) (fun _ _ _ h => h) (by rfl) hS ?_ ?_
            rotate_left
            · intro w' hw'; go_simp; with_reducible rfl
            go_simp
            refine H_take (i := 2) (v := ?_) rfl (by as_aux_lemma => kernel_rfl) (by as_aux_lemma => kernel_rfl) (by as_aux_lemma => kernel_rfl) (fun _ _ _ h => h) (by rfl) hS ?_ ?_
            rotate_left
            · intro w' hw'; go_simp; with_reducible rfl
            go_simp
            refine H_take (i := 3) (v := ?_) rfl (by as_aux_lemma => kernel_rfl) (by as_aux_lemma => kernel_rfl) (by as_aux_lemma => kernel_rfl) (fun _ _ _ h => h) (by rfl) hS ?_ ?_
            rotate_left
            · intro w' hw'; go_simp; with_reducible rfl
            go_simp
            refine H_take (i := 4) (v := ?_) rfl (by as_aux_lemma => kernel_rfl) (by as_aux_lemma => kernel_rfl) (by as_aux_lemma => kernel_rfl) (fun _ _ _ h => h) (by rfl) hS ?_ ?_
            rotate_left
            · intro w' hw'; go_simp; with_reducible rfl
            go_simp
            refine H_take (i := 5) (v := ?_) rfl (by as_aux_lemma => kernel_rfl) (by as_aux_lemma => kernel_rfl) (by as_aux_lemma => kernel_rfl) (fun _ _ _ h => h) (by rfl) hS ?_ ?_
            rotate_left
            · intro w' hw'; go_simp; with_reducible rfl
            go_simp
            refine H_take (i := 6) (v := ?_) rfl (by as_aux_lemma => kernel_rfl) (by as_aux_lemma => kernel_rfl) (by as_aux_lemma => kernel_rfl) (fun _ _ _ h => h) (by rfl) hS ?_ ?_
            rotate_left
            · intro w' hw'; go_simp; with_reducible rfl
            go_simp
            refine H_take (i := 7) (v := ?_) rfl (by as_aux_lemma => kernel_rfl) (by as_aux_lemma => kernel_rfl) (by as_aux_lemma => kernel_rfl) (fun _ _ _ h => h) (by rfl) hS ?_ ?_
            rotate_left
            · intro w' hw'; go_simp; with_reducible rfl
            go_simp
            refine H_take (i := 8) (v := ?_) rfl (by as_aux_lemma => kernel_rfl) (by as_aux_lemma => kernel_rfl) (by as_aux_lemma => kernel_rfl) (fun _ _ _ h => h) (by rfl) hS ?_ ?_
            rotate_left
            · intro w' hw'; go_simp; with_reducible rfl
            go_simp
            refine H_take (i := 9) (v := ?_) rfl (by as_aux_lemma => kernel_rfl) (by as_aux_lemma => kernel_rfl) (by as_aux_lemma => kernel_rfl) (fun _ _ _ h => h) (by rfl) hS ?_ ?_
            rotate_left
            · intro w' hw'; go_simp; with_reducible rfl
            go_simp
            refine H_take (i := 10) (v := ?_) rfl (by as_aux_lemma => kernel_rfl) (by as_aux_lemma => kernel_rfl) (by as_aux_lemma => kernel_rfl) (fun _ _ _ h => h) (by rfl) hS ?_ ?_
            rotate_left
            · intro w' hw'; go_simp; with_reducible rfl
            go_simp
            refine H_one (i := 11) (by as_aux_lemma => kernel_rfl) rfl (by rfl) ?_
            go_simp
            obtain ⟨gx, hgx⟩ : ∃ gx, gx = wr.heap.size := ⟨_, rfl⟩
            obtain ⟨wn, hwn⟩ : ∃ wn, wn = (wr.alloc (.cells #[.int .i64 id] 3)).drew := ⟨_, rfl⟩
            rw [← hwn, ← hgx]
            have hbn : Below wr.heap.size wr wn := by rw [hwn]; exact (below_alloc _ _).drew
            have hSn : Only (fun j => j = gp ∨ j = gm) wr wn := Only.of_below hbn
            have hrn : RepI wn (fun k => k = gx) [id] (.slice (some ⟨gx, 0, none⟩) 1 1) := by
              rw [hwn]
              exact ((one_int (w := wr) hgx HR.out).exact rfl).same (fun _ h => h) fun _ _ => rfl
            have hsay := Say_any V [id] (ms.take t) yb gp gm (fun k => k = gx) (.slice (some ⟨gx, 0, none⟩) 1 1) wn (HT.out.2.next hbn) hrn (fun k hk => by
              have h1 := HT.out.2.lt
              have h2 : wn.heap.size = wr.heap.size + 1 := by rw [hwn]; simp
              omega) (by have := HSM.out; omega)
            have HSAY := Lib.hid hsay
            clear hgx hwn hbn hrn hsay hS r0 r1
            refine ⟨hSn, ?_⟩
            refine H_one (i := 12) (by as_aux_lemma => kernel_rfl) rfl (by rfl) ?_
            go_simp
            refine HSAY.out.mono ?_
            rintro e w10 ⟨rfl, ho10, hp10⟩
            have hS10 : Only (fun j => j = gp ∨ j = gm) wr w10 := hSn.then ho10
            have HT10 : Hid (Only (fun j => j = gp ∨ j = gm) w9 w10 ∧ PollAt w10 gp gm V (ms.take (t + 1))) := Lib.hid ⟨HT.out.1.then hS10, by rw [HTK.out]; exact hp10⟩
            refine ⟨hS10, ?_⟩
            go_simp
            refine wpAnyH_done (by as_aux_lemma => kernel_rfl) ?_ _
            clear hS10 hSn ho10 hp10 HSAY
            go_wp2_with fail
            refine (Stands_any V _ gp gm w10 HT10.out.2 (by have := HSM.out; omega)).mono ?_
            rintro e w11 ⟨rfl, hb11, hh11⟩
            have HT11 : Hid (Only (fun j => j = gp ∨ j = gm) w9 w11 ∧ PollAt w11 gp gm V (ms.take (t + 1))) := Lib.hid ⟨HT10.out.1.then (Only.of_below hb11), HT10.out.2.same (by rw [hh11]) (by rw [hh11])⟩
            clear hb11 hh11 HT10
            have HSTAY : Hid (standOf V (ms.take t) ≠ 0 → standOf V (ms.take (t + 1)) = standOf V (ms.take t)) := Lib.hid (by rw [HTK.out]; exact stand_stays V (ms.take t) (yb, id))
            obtain ⟨sl, hsl⟩ : ∃ sl, sl = standOf V (ms.take t) := ⟨_, rfl⟩
            obtain ⟨sn, hsn⟩ : ∃ sn, sn = standOf V (ms.take (t + 1)) := ⟨_, rfl⟩
            rw [← hsl, ← hsn] at HSTAY
            rw [← hsl, ← hsn]
            have HSN := Lib.hid hsn
            have hbw := HK.out w11 HT11.out.1
            have HRT : Hid (∀ w', Below w11.heap.size w11 w' → Calls Try.prog 15 #[.agg #[.slice a z k, .slice a' m k'], .slice (some ⟨lb, lo, none⟩) (t + 1) mk] w' fun e w'' => e = .returned (.int .i64 sn) ∧ Below w'.heap.size w' w'') := Lib.hid fun w' hb' => by
              have hb := hbw.trans (hb'.mono hbw.size)
              rw [hsn]
              exact HRS.out (ms.take (t + 1)) (fun k => k < w.heap.size) _ w' (by rw [List.length_take]; omega) hb ((HMB.out w' hb).take ht3) (fun k hk => Nat.lt_of_lt_of_le hk (HB3.out.trans (hb.mono HB3.out.size)).size)
            have HBXE : Hid (∀ w', Below w11.heap.size w11 w' → w'.heap[g]? = some (.cells #[.slice a z k, .slice a' m k'] 24)) := Lib.hid fun w' hb' => old_below HBX3.out (hbw.trans (hb'.mono hbw.size))
            have r0 : ∀ w' : World, Below w11.heap.size w11 w' → w'.cell? ⟨g, 0, none⟩ = some (.slice a z k) := fun w' hb' => (block2' (HBXE.out w' hb')).1
            have r1 : ∀ w' : World, Below w11.heap.size w11 w' → w'.cell? ⟨g, 1, none⟩ = some (.slice a' m k') := fun w' hb' => (block2' (HBXE.out w' hb')).2.1
            have hS : Below w11.heap.size w11 w11.drew := (Below.refl _ _).drew
            have hmkq : t + 1 ≤ mk := by omega
            have hmk1 : (0 : Int) ≤ (t : Int) + 1 := by omega
            have hmk2 : (t : Int) + 1 ≤ (mk : Int) := by omega
            have hw1 : IntKind.i64.wrap ((t : Int) + 1) = ((t + 1 : Nat) : Int) := by rw [IntWalk.i64_in _ (by omega)]; omega
            have qn : (sn != sn) = false := by simp
            clear hsl hsn hbw
            go_wp2_with fail
            refine wp_region_held (S := fun w' => Below w11.heap.size w11 w') (by kernel_rfl) ?_
            refine H_take (i := 0) (v := ?_) rfl (by as_aux_lemma => kernel_rfl) (by as_aux_lemma => kernel_rfl) (by as_aux_lemma => kernel_rfl) (fun _ _ _ h => h) (by rfl) hS ?_ ?_
            rotate_left
            · intro w' hw'; go_simp; with_reducible rfl
            go_simp
            refine H_take (i := 1) (v := ?_) rfl (by as_aux_lemma => kernel_rfl) (by as_aux_lemma => kernel_rfl) (by as_aux_lemma => kernel_rfl) (fun _ _ _ h => h) (by rfl) hS ?_ ?_
            rotate_left
            · intro w' hw'; go_simp; with_reducible rfl
            go_simp
            refine H_take (i := 2) (v := ?_) rfl (by as_aux_lemma => kernel_rfl) (by as_aux_lemma => kernel_rfl) (by as_aux_lemma => kernel_rfl) (fun _ _ _ h => h) (by rfl) hS ?_ ?_
            rotate_left
            · intro w' hw'; go_simp; with_reducible rfl
            go_simp
            refine H_take (i := 3) (v := ?_) rfl (by as_aux_lemma => kernel_rfl) (by as_aux_lemma => kernel_rfl) (by as_aux_lemma => kernel_rfl) (fun _ _ _ h => h) (by rfl) hS ?_ ?_
            rotate_left
            · intro w' hw'; go_simp; with_reducible rfl
            go_simp
            refine H_take (i := 4) (v := ?_) rfl (by as_aux_lemma => kernel_rfl) (by as_aux_lemma => kernel_rfl) (by as_aux_lemma => kernel_rfl) (fun _ _ _ h => h) (by rfl) hS ?_ ?_
            rotate_left
            · intro w' hw'; go_simp; with_reducible rfl
            go_simp
            refine H_take (i := 5) (v := ?_) rfl (by as_aux_lemma => kernel_rfl) (by as_aux_lemma => kernel_rfl) (by as_aux_lemma => kernel_rfl) (fun _ _ _ h => h) (by rfl) hS ?_ ?_
            rotate_left
            · intro w' hw'; go_simp; with_reducible rfl
            go_simp
            refine H_one (i := 6) (by as_aux_lemma => kernel_rfl) rfl (by rfl) ?_
            go_simp
            refine (HRT.out _ hS).mono ?_
            rintro e w12 ⟨rfl, hb12⟩
            have hS12 : Below w11.heap.size w11 w12 := hS.trans (hb12.mono hS.size)
            refine ⟨hS12, ?_⟩
            go_simp
            have HT12 : Hid (Only (fun j => j = gp ∨ j = gm) w9 w12 ∧ PollAt w12 gp gm V (ms.take (t + 1))) := Lib.hid ⟨HT11.out.1.then (Only.of_below hS12), HT11.out.2.next hS12⟩
            clear hb12 hS r0 r1
            by_cases hl0 : sl = 0
            · have q0 : (sl != 0) = false := by simp [hl0]
              clear hl0
              refine H_take (i := 7) (v := ?_) rfl (by as_aux_lemma => kernel_rfl) (by as_aux_lemma => kernel_rfl) (by as_aux_lemma => kernel_rfl) (fun _ _ _ h => h) (by rfl) hS12 ?_ ?_
              rotate_left
              · intro w' hw'; go_simp; with_reducible rfl
              go_simp
              refine H_take (i := 8) (v := ?_) rfl (by as_aux_lemma => kernel_rfl) (by as_aux_lemma => kernel_rfl) (by as_aux_lemma => kernel_rfl) (fun _ _ _ h => h) (by rfl) hS12 ?_ ?_
              rotate_left
              · intro w' hw'; go_simp; with_reducible rfl
              go_simp
              refine H_take (i := 9) (v := ?_) rfl (by as_aux_lemma => kernel_rfl) (by as_aux_lemma => kernel_rfl) (by as_aux_lemma => kernel_rfl) (fun _ _ _ h => h) (by rfl) hS12 ?_ ?_
              rotate_left
              · intro w' hw'; go_simp; with_reducible rfl
              go_simp
              refine H_take (i := 10) (v := ?_) rfl (by as_aux_lemma => kernel_rfl) (by as_aux_lemma => kernel_rfl) (by as_aux_lemma => kernel_rfl) (fun _ _ _ h => h) (by rfl) hS12 ?_ ?_
              rotate_left
              · intro w' hw'; go_simp; with_reducible rfl
              go_simp
              refine H_take (i := 11) (v := ?_) rfl (by as_aux_lemma => kernel_rfl) (by as_aux_lemma => kernel_rfl) (by as_aux_lemma => kernel_rfl) (fun _ _ _ h => h) (by rfl) hS12 ?_ ?_
              rotate_left
              · intro w' hw'; go_simp; with_reducible rfl
              go_simp
              refine H_skip (i := 12) rfl (by as_aux_lemma => kernel_rfl) (by as_aux_lemma => kernel_rfl) (by as_aux_lemma => kernel_rfl) (fun _ _ _ h => h) (by rfl) hS12 ?_
              go_simp
              refine H_skip (i := 13) rfl (by as_aux_lemma => kernel_rfl) (by as_aux_lemma => kernel_rfl) (by as_aux_lemma => kernel_rfl) (fun _ _ _ h => h) (by rfl) hS12 ?_
              go_simp
              refine H_skip (i := 14) rfl (by as_aux_lemma => kernel_rfl) (by as_aux_lemma => kernel_rfl) (by as_aux_lemma => kernel_rfl) (fun _ _ _ h => h) (by rfl) hS12 ?_
              go_simp
              refine H_take (i := 15) (v := ?_) rfl (by as_aux_lemma => kernel_rfl) (by as_aux_lemma => kernel_rfl) (by as_aux_lemma => kernel_rfl) (fun _ _ _ h => h) (by rfl) hS12 ?_ ?_
              rotate_left
              · intro w' hw'; go_simp; with_reducible rfl
              go_simp
              refine H_take (i := 16) (v := ?_) rfl (by as_aux_lemma => kernel_rfl) (by as_aux_lemma => kernel_rfl) (by as_aux_lemma => kernel_rfl) (fun _ _ _ h => h) (by rfl) hS12 ?_ ?_
              rotate_left
              · intro w' hw'; go_simp; with_reducible rfl
              go_simp
              refine wpAnyH_done (by as_aux_lemma => kernel_rfl) ?_ _
              clear hS12
              go_wp2_with fail
              go_roundg (gk - 1)
              case measure => omega
              case rel => exact ⟨t + 1, by omega, by go_num, by rw [HSN.out], HT12⟩
            · have q0 : (sl != 0) = true := by simpa using hl0
              have hsl := HSTAY.out hl0
              rw [hsl] at HSN qn ⊢
              clear hl0 hsl HSTAY
              refine H_take (i := 7) (v := ?_) rfl (by as_aux_lemma => kernel_rfl) (by as_aux_lemma => kernel_rfl) (by as_aux_lemma => kernel_rfl) (fun _ _ _ h => h) (by rfl) hS12 ?_ ?_
              rotate_left
              · intro w' hw'; go_simp; with_reducible rfl
              go_simp
              refine H_take (i := 8) (v := ?_) rfl (by as_aux_lemma => kernel_rfl) (by as_aux_lemma => kernel_rfl) (by as_aux_lemma => kernel_rfl) (fun _ _ _ h => h) (by rfl) hS12 ?_ ?_
              rotate_left
              · intro w' hw'; go_simp; with_reducible rfl
              go_simp
              refine H_take (i := 9) (v := ?_) rfl (by as_aux_lemma => kernel_rfl) (by as_aux_lemma => kernel_rfl) (by as_aux_lemma => kernel_rfl) (fun _ _ _ h => h) (by rfl) hS12 ?_ ?_
              rotate_left
              · intro w' hw'; go_simp; with_reducible rfl
              go_simp
              refine H_take (i := 10) (v := ?_) rfl (by as_aux_lemma => kernel_rfl) (by as_aux_lemma => kernel_rfl) (by as_aux_lemma => kernel_rfl) (fun _ _ _ h => h) (by rfl) hS12 ?_ ?_
              rotate_left
              · intro w' hw'; go_simp; with_reducible rfl
              go_simp
              refine H_take (i := 11) (v := ?_) rfl (by as_aux_lemma => kernel_rfl) (by as_aux_lemma => kernel_rfl) (by as_aux_lemma => kernel_rfl) (fun _ _ _ h => h) (by rfl) hS12 ?_ ?_
              rotate_left
              · intro w' hw'; go_simp; with_reducible rfl
              go_simp
              refine H_take (i := 12) (v := ?_) rfl (by as_aux_lemma => kernel_rfl) (by as_aux_lemma => kernel_rfl) (by as_aux_lemma => kernel_rfl) (fun _ _ _ h => h) (by rfl) hS12 ?_ ?_
              rotate_left
              · intro w' hw'; go_simp; with_reducible rfl
              go_simp
              refine H_take (i := 13) (v := ?_) rfl (by as_aux_lemma => kernel_rfl) (by as_aux_lemma => kernel_rfl) (by as_aux_lemma => kernel_rfl) (fun _ _ _ h => h) (by rfl) hS12 ?_ ?_
              rotate_left
              · intro w' hw'; go_simp; with_reducible rfl
              go_simp
              refine H_take (i := 14) (v := ?_) rfl (by as_aux_lemma => kernel_rfl) (by as_aux_lemma => kernel_rfl) (by as_aux_lemma => kernel_rfl) (fun _ _ _ h => h) (by rfl) hS12 ?_ ?_
              rotate_left
              · intro w' hw'; go_simp; with_reducible rfl
              go_simp
              refine H_take (i := 15) (v := ?_) rfl (by as_aux_lemma => kernel_rfl) (by as_aux_lemma => kernel_rfl) (by as_aux_lemma => kernel_rfl) (fun _ _ _ h => h) (by rfl) hS12 ?_ ?_
              rotate_left
              · intro w' hw'; go_simp; with_reducible rfl
              go_simp
              refine H_take (i := 16) (v := ?_) rfl (by as_aux_lemma => kernel_rfl) (by as_aux_lemma => kernel_rfl) (by as_aux_lemma => kernel_rfl) (fun _ _ _ h => h) (by rfl) hS12 ?_ ?_
              rotate_left
              · intro w' hw'; go_simp; with_reducible rfl
              go_simp
              refine wpAnyH_done (by as_aux_lemma => kernel_rfl) ?_ _
              clear hS12
              go_wp2_with fail
              go_roundg (gk - 1)
              case measure => omega
              case rel => exact ⟨t + 1, by omega, by go_num, by rw [HSN.out], HT12⟩
          · obtain rfl : t = q := by omega
            have htt : ¬ ((t : Nat) : Int) < (t : Int) := by omega
            have HBE := Lib.hid (HK.out wr HT.out.1)
            clear HT
            go_wp2_with fail
            go_ret
            exact ⟨rfl, HB3.out.trans (HBE.out.mono HB3.out.size)⟩
  · rw [decide_eq_false hs]
    go_wp2_with fail
    refine (awake9_any _).mono ?_
    rintro e w5 ⟨rfl, hb5⟩
    have HB5 : Hid (Below w.heap.size w w5) := Lib.hid (HB3.out.trans (hb5.mono HB3.out.size))
    clear hb5
    go_wp2_with fail
    go_ret
    exact ⟨rfl, HB5.out⟩
end Go.Proofs.Ytenpbcpdecnhmaa.M

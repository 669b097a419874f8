/- Alarms beside the document's list, in a law's own memory. The law TimerAlarms. -/
import Derived.Test.YtckankoaiapcoaaTM13
import Derived.Test.YtckankoaiapcoaaTM14
import Derived.Test.YtckankoaiapcoaaTM16
import Derived.Deep.LoopGhost
import Derived.Deep.CutBlock
import Derived.Deep.RegionHeld
/- Part: TmT. -/
namespace Go.Proofs.Ytckankoaiapcoaa.M
open Go.RowKit Go.Maps
open Tm (Al at' alt swL Pl HpF UpI DnI Sm srt setS clrS Uq)

/-- How the document's list lies: nil, or in a block. -/
def Shp (v : Value) : Prop := v = .slice none 0 0 ∨ ∃ b off n c, v = .slice (some ⟨b, off, none⟩) n c

theorem OwnA.shp {w wr : World} {l : List Al} {v : Value} (h : OwnA w l v wr) : Shp v := by
  rcases h.2.2 with ⟨h1, h2⟩ | ⟨g, cap, cur, hv, _⟩
  · exact .inl h1
  · exact .inr ⟨_, _, _, _, hv⟩

structure AT (w : World) (X F : Nat → Prop) (ga : Nat) (la ld : List Al) (lv : Value) (wr : World) : Prop where
  alm : AW w X ga la wr
  row : RepA wr F ld lv
  f : ∀ k, F k → w.heap.size ≤ k ∧ k < wr.heap.size ∧ ¬ X k
  sh : Shp lv

section
variable {w wr w' : World} {X F : Nat → Prop} {ga : Nat} {la ld l' : List Al} {lv v' : Value}

theorem AT.next (h : AT w X F ga la ld lv wr) (hb : Below wr.heap.size wr w') : AT w X F ga la ld lv w' :=
  ⟨h.alm.next hb, h.row.same (fun _ h => h) fun k hk => hb.block k (h.f k hk).2.1, fun k hk => ⟨(h.f k hk).1, Nat.lt_of_lt_of_le (h.f k hk).2.1 hb.size, (h.f k hk).2.2⟩, h.sh⟩

theorem AT.set (h : AT w X F ga la ld lv wr) (hp : MPost X ga l' wr w') : AT w (More X wr w') F ga l' ld lv w' :=
  ⟨h.alm.post hp, h.row.same (fun _ h => h) fun k hk => hp.1.block k (h.f k hk).2.1 (h.f k hk).2.2, fun k hk => ⟨(h.f k hk).1, Nat.lt_of_lt_of_le (h.f k hk).2.1 hp.1.size, fun hm => by
    rcases hm with hm | hm
    · exact (h.f k hk).2.2 hm
    · have := (h.f k hk).2.1; omega⟩, h.sh⟩

theorem AT.due (h : AT w X F ga la ld lv wr) (ho : Only X wr w') (ha : AlS w' X ga l') : AT w X F ga l' ld lv w' :=
  ⟨h.alm.due ho ha, h.row.same (fun _ h => h) fun k hk => ho.block k (h.f k hk).2.1 (h.f k hk).2.2, fun k hk => ⟨(h.f k hk).1, Nat.lt_of_lt_of_le (h.f k hk).2.1 ho.size, (h.f k hk).2.2⟩, h.sh⟩

theorem AT.doc (h : AT w X F ga la ld lv wr) (ho : OwnA wr l' v' w') : AT w X (fun b => wr.heap.size ≤ b ∧ b < w'.heap.size) ga la l' v' w' :=
  ⟨h.alm.next ho.1, ho.rep, fun k hk => ⟨Nat.le_trans h.alm.below.size hk.1, hk.2, fun hx => by have := (h.alm.lo k hx).2; omega⟩, ho.shp⟩
end

/-- The first n gone. -/
theorem RepA.drop {w : World} {F : Nat → Prop} {l : List Al} {b off n c : Nat} (h : RepA w F l (.slice (some ⟨b, off, none⟩) l.length c)) (hn : n ≤ l.length) :
    RepA w F (l.drop n) (.slice (if c = n then some ⟨b, off, none⟩ else some ⟨b, off + n * 2, none⟩) (l.length - n) (c - n)) := by
  rcases h with ⟨rfl, a, c', he, hc, _⟩ | ⟨b', off', c', hv, hb, hl, hm, hc⟩
  · refine .inl ⟨by simp, ?_⟩
    have hn0 : n = 0 := by simpa using hn
    subst hn0
    cases he
    refine ⟨if c = 0 then some ⟨b, off, none⟩ else some ⟨b, off + 0 * 2, none⟩, c - 0, rfl, by omega, fun h => ?_⟩
    split at h <;> cases h
  · cases hv
    by_cases e : c = n
    · have e2 : l.length = n := by omega
      refine .inl ⟨List.drop_of_length_le (by omega), if c = n then some ⟨b, off, none⟩ else some ⟨b, off + n * 2, none⟩, c - n, by rw [e2, Nat.sub_self], by omega, fun h => ?_⟩
      split at h <;> cases h
    · rw [if_neg e]
      refine .inr ⟨b, off + n * 2, c - n, by rw [List.length_drop], hb, by rw [List.length_drop]; omega, by omega, fun i hi => ?_⟩
      rw [List.length_drop] at hi
      have h1 := hc (n + i) (by omega)
      have e3 : at' (l.drop n) i = at' l (n + i) := by unfold Tm.at'; rw [List.getElem?_drop]
      rw [e3]
      refine ⟨?_, ?_⟩
      · rw [← h1.1]; congr 2; omega
      · rw [← h1.2]; congr 2; omega

theorem AT.drop {w wr : World} {X F : Nat → Prop} {ga : Nat} {la l : List Al} {b off n c : Nat} (h : AT w X F ga la l (.slice (some ⟨b, off, none⟩) l.length c) wr) (hn : n ≤ l.length) :
    AT w X F ga la (l.drop n) (.slice (if c = n then some ⟨b, off, none⟩ else some ⟨b, off + n * 2, none⟩) (l.length - n) (c - n)) wr :=
  ⟨h.alm, h.row.drop hn, h.f, by
    by_cases e : c = n
    · rw [if_pos e]; exact .inr ⟨_, _, _, _, rfl⟩
    · rw [if_neg e]; exact .inr ⟨_, _, _, _, rfl⟩⟩

theorem AlS.uq {w : World} {X : Nat → Prop} {ga : Nat} {l : List Al} (h : AlS w X ga l) : Uq l := by
  obtain ⟨L, h1, h2, _⟩ := h
  rcases h1 with ⟨rfl, _⟩ | ⟨gr, gm, c, _, hi, _⟩
  · rw [sm_nil h2]; intro x hx; simp at hx
  · obtain ⟨p, _, hp⟩ := hi.map
    exact h2.uq hp

theorem AlS.srt' {w : World} {X : Nat → Prop} {ga : Nat} {l : List Al} (h : AlS w X ga l) : srt l := by
  obtain ⟨L, _, _, _, h4⟩ := h
  exact h4

/-- The time of one that is there. -/
theorem AlS.time {w : World} {X : Nat → Prop} {ga : Nat} {l : List Al} (h : AlS w X ga l) {k : Nat} (hk : k < l.length) : timeV (timeOf l (at' l k).2) = .tuple #[.int .i64 (at' l k).1, .bool true] := by
  rw [timeOf_some h.uq (Tm.mem_at.2 ⟨k, hk, rfl⟩)]
  rfl

/-- Is a key there, among the first j? -/
def hasK (l : List Al) (j : Nat) (key : Int) : Bool := (l.take j).any fun x => x.2 == key

theorem hasK_more {l : List Al} {j : Nat} (hj : j < l.length) (key : Int) : hasK l (j + 1) key = (hasK l j key || ((at' l j).2 == key)) := by
  unfold hasK
  rw [List.take_succ_eq_append_getElem hj, List.any_append, Tm.at_eq hj]
  simp

theorem time_has {l : List Al} {key : Int} : (hasK l l.length key = true → ∃ t, timeV (timeOf l key) = .tuple #[.int .i64 t, .bool true]) ∧ (hasK l l.length key = false → timeV (timeOf l key) = .tuple #[.int .i64 0, .bool false]) := by
  unfold hasK
  rw [List.take_length]
  constructor
  · intro h
    obtain ⟨x, hx, hk⟩ := List.any_eq_true.1 h
    unfold timeOf
    cases hf : l.find? (fun x => x.2 == key) with
    | none => exact absurd hk (by have := List.find?_eq_none.1 hf x hx; simpa using this)
    | some y => exact ⟨y.1, rfl⟩
  · intro h
    rw [timeOf_none fun x hx e => by
      have := List.any_eq_false.1 h x hx
      simp [e] at this]
    rfl

/-- How many come due, one by one. -/
theorem due_step {l : List Al} {now : Int} {p : Nat} (hp : p ≤ dueN l now) : (p < l.length → ((at' l p).1 ≤ now ↔ p < dueN l now)) ∧ (¬ p < l.length → p = dueN l now) := by
  have h := due_at now l p hp
  refine ⟨fun hl => ?_, fun hl => h.1 (List.drop_of_length_le (by omega))⟩
  have e : l.drop p = at' l p :: l.drop (p + 1) := by rw [List.drop_eq_getElem_cons hl, Tm.at_eq hl]
  exact h.2 _ _ e

theorem dueK_at {l : List Al} {now : Int} {p : Nat} (hp : p < dueN l now) : ∃ h : p < (dueK l now).length, (dueK l now)[p] = (at' l p).2 := by
  have h1 := dueN_le l now
  have hl : (dueK l now).length = dueN l now := by unfold dueK; rw [List.length_map, List.length_take]; omega
  refine ⟨by omega, ?_⟩
  unfold dueK
  rw [List.getElem_map, List.getElem_take, Tm.at_eq (by omega)]

theorem dueK_length (l : List Al) (now : Int) : (dueK l now).length = dueN l now := by
  have h1 := dueN_le l now
  unfold dueK; rw [List.length_map, List.length_take]; omega
end Go.Proofs.Ytckankoaiapcoaa.M

/- Part: LawTmAlarms. -/
namespace Go.Proofs.Ytckankoaiapcoaa.M
open Go.RowKit Go.Maps
open Tm (Al at' alt swL Pl HpF UpI DnI Sm srt setS clrS Uq)










set_option maxRecDepth 20000 in
set_option maxHeartbeats 12800000 in
theorem TimerAlarms_any (acts : List Ak) (av : Value) (w : World) (ha : RepAks w (fun k => k < w.heap.size) acts av) :
    Calls Try.prog 5 #[av] w fun e w' => e = .returned (.bool true) ∧ Below w.heap.size w w' := by
  obtain ⟨aa, ac, rfl, hal⟩ := ha.slice
  obtain ⟨n, hn⟩ : ∃ n, n = acts.length := ⟨_, rfl⟩
  rw [← hn] at hal ⊢
  have HA := Lib.hid ha
  have HN := Lib.hid hn
  clear ha hn
  go_enter Try.func5, Try.ntmps5
  go_wp2_with fail
  refine (awake10_any w).mono ?_
  rintro e w2 ⟨rfl, hb2⟩
  have HB2 := Lib.hid hb2
  clear hb2
  by_cases h1 : n ≤ 60
  · have h1' : ¬ (60 : Int) < (n : Int) := by omega
    obtain ⟨ga, hga⟩ : ∃ ga, ga = w2.heap.size := ⟨_, rfl⟩
    obtain ⟨W, hW⟩ : ∃ W, W = w2.alloc (.cells #[.slice none 0 0, .map none] 42) := ⟨_, rfl⟩
    have haw := AW.new HB2.out hga
    rw [← hW] at haw
    have HAT : Hid (AT w (fun q => q = ga) (fun _ => False) ga [] [] (.slice none 0 0) W) := Lib.hid ⟨haw, .inl ⟨rfl, Bare.nil⟩, fun k hk => hk.elim, .inl rfl⟩
    have HW := Lib.hid hW
    have HGA := Lib.hid hga
    clear haw hW hga
    go_wp2_with fail
    rw [← HGA.out, ← HW.out]
    go_loopg [4, 5] n (fun gk lv iv wr => ∃ (z ln c : Nat) (a : Option Addr) (l : List Al) (X F : Nat → Prop), z + gk = n ∧ iv = .int .i64 (z : Int) ∧ lv = .slice a ln c ∧ ln ≤ 30 * z ∧ Hid (AT w X F ga l l (.slice a ln c) wr ∧ l.length = ln))
    case atStart => exact ⟨0, 0, 0, none, [], _, _, by omega, rfl, rfl, by omega, Lib.hid ⟨HAT.out, rfl⟩⟩
    case round =>
      obtain ⟨z, ln, c, a, l, X, F, hz, rfl, rfl, hln, HT⟩ := hrel
      by_cases hzn : z < n
      · have hzn2 : (z : Int) < (n : Int) := by omega
        have hz2 : z < acts.length := by rw [← HN.out]; exact hzn
        have hrep := HA.out.same (fun _ h => h) fun k hk => HT.out.1.alm.below.block k hk
        obtain ⟨b, off, rfl, -, x0, x1, x2, e0, e1, e2, rfl, rfl, hks, hk0, ht0⟩ := hrep.elem z hz2
        obtain ⟨kd, hkd⟩ : ∃ x, x = acts[z].kind := ⟨_, rfl⟩
        obtain ⟨t, htt⟩ : ∃ x, x = acts[z].at_ := ⟨_, rfl⟩
        obtain ⟨ks, hkk⟩ : ∃ x, x = acts[z].keys := ⟨_, rfl⟩
        rw [← hkd] at e0 hk0
        rw [← htt] at e1 ht0
        rw [← hkk] at hks
        obtain ⟨sa, sc, rfl, -⟩ := hks.slice
        obtain ⟨sn, hsn⟩ : ∃ sn, sn = ks.length := ⟨_, rfl⟩
        rw [← hsn] at hks e2
        obtain ⟨gx, hgx⟩ : ∃ gx, gx = wr.heap.size := ⟨_, rfl⟩
        obtain ⟨Wa, hWa⟩ : ∃ Wa, Wa = wr.alloc (.cells #[.int .i64 kd, .int .i64 t, .slice sa sn sc] 45) := ⟨_, rfl⟩
        have hba : Below wr.heap.size wr Wa := by rw [hWa]; exact below_alloc _ _
        have hxa : Wa.heap[gx]? = some (.cells #[.int .i64 kd, .int .i64 t, .slice sa sn sc] 45) := by rw [hWa]; exact heap_new _ _ _ hgx
        have HTA : Hid (AT w X F ga l l (.slice a ln c) Wa ∧ l.length = ln ∧ ¬ X gx ∧ Wa.heap[gx]? = some (.cells #[.int .i64 kd, .int .i64 t, .slice sa sn sc] 45)) := Lib.hid ⟨HT.out.1.next hba, HT.out.2, fun h => by have := (HT.out.1.alm.lo gx h).2; omega, hxa⟩
        have HKS : Hid (∀ w', Below w.heap.size w w' → RepI w' (fun k => k < w.heap.size) ks (.slice sa sn sc)) := Lib.hid fun w' hb => hks.same (fun _ h => h) fun k hk => (hb.block k hk).trans (HT.out.1.alm.below.block k hk).symm
        have HSN := Lib.hid hsn
        have HK0 := Lib.hid hk0
        have HT0 := Lib.hid ht0
        have HWA := Lib.hid hWa
        have HGX := Lib.hid hgx
        have HGXL : Hid (w.heap.size ≤ gx) := Lib.hid (by rw [hgx]; exact HT.out.1.alm.below.size)
        have c0 : Wa.cell? ⟨gx, 0, none⟩ = some (.int .i64 kd) := cell_of_row _ _ 0 _ _ _ hxa
        have c1 : Wa.cell? ⟨gx, 1, none⟩ = some (.int .i64 t) := cell_of_row _ _ 1 _ _ _ hxa
        have c2 : Wa.cell? ⟨gx, 2, none⟩ = some (.slice sa sn sc) := cell_of_row _ _ 2 _ _ _ hxa
        have cz : gx < Wa.heap.size := lt_of_heap hxa
        clear hrep hz2 hkd htt hkk hks hsn hk0 ht0 hWa hgx hba hxa
        by_cases hs30 : sn ≤ 30
        · have hs30' : ¬ (30 : Int) < (sn : Int) := by omega
          go_upto_block 2 with fail
          rw [← HGX.out, ← HWA.out]
          go_cut [4, 7, 8, 9, 10, 45, 68, 87] from 46 to 130 (fun lv _ _ _ _ _ _ _ w' => ∃ (ln' c' : Nat) (a' : Option Addr) (l' : List Al) (X' F' : Nat → Prop), lv = .slice a' ln' c' ∧ ln' ≤ 30 * (z + 1) ∧ Hid (AT w X' F' ga l' l' (.slice a' ln' c') w' ∧ l'.length = ln' ∧ ¬ X' gx ∧ w'.heap[gx]? = some (.cells #[.int .i64 kd, .int .i64 t, .slice sa sn sc] 45)))
          case first =>
            by_cases y0 : kd = 0
            · as_aux_lemma =>
                have p0 : (kd == 0) = true := by simp [y0]
                clear y0
                have HST := Lib.hid (Set_any ga X l t HT0.out ks (fun k => k < w.heap.size) (.slice sa sn sc) (by rw [HTA.out.2.1, ← HSN.out]; omega) Wa HTA.out.1.alm.alm (HKS.out Wa HTA.out.1.alm.below) fun k hk => ⟨Nat.lt_of_lt_of_le hk HTA.out.1.alm.below.size, fun hx => by have := (HTA.out.1.alm.lo k hx).1; omega⟩)
                go_wp2_with fail
                refine HST.out.mono ?_
                rintro e w4 ⟨rfl, hm4⟩
                have hat4 := HTA.out.1.set hm4
                have hx4 : w4.heap[gx]? = some (.cells #[.int .i64 kd, .int .i64 t, .slice sa sn sc] 45) := (hm4.1.block gx cz HTA.out.2.2.1).trans HTA.out.2.2.2
                have hnx4 : ¬ More X Wa w4 gx := fun h => h.elim HTA.out.2.2.1 fun h => by omega
                obtain ⟨X4, hX4⟩ : ∃ X4, X4 = More X Wa w4 := ⟨_, rfl⟩
                rw [← hX4] at hat4 hnx4
                have HL4 : Hid (setsS l t (ks.take sn) = setsS l t ks) := Lib.hid (by rw [HSN.out, List.take_length])
                have H4 := Lib.hid (And.intro hat4 (And.intro hx4 hnx4))
                clear HST hm4 hat4 hx4 hnx4 hX4 c0 c1 c2 cz
                go_wp2_with fail
                go_loopg [4, 7] sn (fun gk lv kv wr => ∃ (z' ln' c' : Nat) (a' : Option Addr) (ld : List Al) (F' : Nat → Prop), z' + gk = sn ∧ kv = .int .i64 (z' : Int) ∧ lv = .slice a' ln' c' ∧ ln' ≤ 30 * z + z' ∧ Hid (AT w X4 F' ga (setsS l t ks) ld (.slice a' ln' c') wr ∧ ld.length = ln' ∧ ld = setsS l t (ks.take z') ∧ wr.heap[gx]? = some (.cells #[.int .i64 kd, .int .i64 t, .slice sa sn sc] 45)))
                case atStart => exact ⟨0, ln, c, a, l, F, by omega, rfl, rfl, by omega, Lib.hid ⟨H4.out.1, HTA.out.2.1, by simp [setsS], H4.out.2.1⟩⟩
                case round =>
                  obtain ⟨z', ln', c', a', ld, F', hz', rfl, rfl, hln', HR⟩ := hrel
                  have d2 : wr.cell? ⟨gx, 2, none⟩ = some (.slice sa sn sc) := cell_of_row _ _ 2 _ _ _ HR.out.2.2.2
                  have dz : gx < wr.heap.size := lt_of_heap HR.out.2.2.2
                  by_cases hzs : z' < sn
                  · have hzs2 : (z' : Int) < (sn : Int) := by omega
                    obtain ⟨key, hkey⟩ : ∃ x, x = ks[z']'(by rw [← HSN.out]; exact hzs) := ⟨_, rfl⟩
                    obtain ⟨b2, off2, rfl, hb2, f0, f1, f2⟩ := (HKS.out wr HR.out.1.alm.below).elem' (m := sn) HSN.out z' hzs
                    rw [← hkey] at f0 f1 f2
                    have HNX : Hid (setS ld t key = setsS l t (ks.take (z' + 1))) := Lib.hid (by rw [setsS_take (by rw [← HSN.out]; exact hzs), HR.out.2.2.1, hkey])
                    have HRS := Lib.hid (RefSet_any ld t key (.slice a' ln' c') F' (by rw [HR.out.2.1]; omega) wr.drew (HR.out.1.next (below_drew1 _)).row fun k hk => (HR.out.1.f k hk).2.1)
                    have hb2l : b2 < wr.heap.size := Nat.lt_of_lt_of_le hb2 HR.out.1.alm.below.size
                    have q1 : ∀ w', Below wr.heap.size wr w' → w'.cell? ⟨gx, 1, none⟩ = some (.int .i64 t) := fun w' h' => cell_of_row _ _ 1 _ _ _ (old_below HR.out.2.2.2 h')
                    have q2 : ∀ w', Below wr.heap.size wr w' → w'.cell? ⟨gx, 2, none⟩ = some (.slice (some ⟨b2, off2, none⟩) sn sc) := fun w' h' => cell_of_row _ _ 2 _ _ _ (old_below HR.out.2.2.2 h')
                    have q3 : ∀ w', Below wr.heap.size wr w' → w'.cell? ⟨b2, off2 + z', none⟩ = some (.int .i64 key) := fun w' h' => (World.cell?_of_block (a := ⟨b2, off2 + z', none⟩) (h'.block b2 hb2l)).trans f0
                    have hS : Below wr.heap.size wr wr.drew := below_drew1 _
                    clear hkey f0 f1 f2
                    go_wp2_with fail
                    clear d2 dz
                    refine wp_region_held (S := fun w' => Below wr.heap.size wr w') (by kernel_rfl) ?_
                    refine H_take (i := 0) (v := ?_) rfl (by as_aux_lemma => kernel_rfl) (by as_aux_lemma => kernel_rfl) (by as_aux_lemma => kernel_rfl) (fun _ _ _ h => h) (by rfl) hS ?_ ?_
                    rotate_left
                    · intro w' hw'; go_simp; with_reducible rfl
                    go_simp
                    refine H_take (i := 1) (v := ?_) rfl (by as_aux_lemma => kernel_rfl) (by as_aux_lemma => kernel_rfl) (by as_aux_lemma => kernel_rfl) (fun _ _ _ h => h) (by rfl) hS ?_ ?_
                    rotate_left
                    · intro w' hw'; go_simp; with_reducible rfl
                    go_simp
                    refine H_take (i := 2) (v := ?_) rfl (by as_aux_lemma => kernel_rfl) (by as_aux_lemma => kernel_rfl) (by as_aux_lemma => kernel_rfl) (fun _ _ _ h => h) (by rfl) hS ?_ ?_
                    rotate_left
                    · intro w' hw'; go_simp; with_reducible rfl
                    go_simp
                    refine H_take (i := 3) (v := ?_) rfl (by as_aux_lemma => kernel_rfl) (by as_aux_lemma => kernel_rfl) (by as_aux_lemma => kernel_rfl) (fun _ _ _ h => h) (by rfl) hS ?_ ?_
                    rotate_left
                    · intro w' hw'; go_simp; with_reducible rfl
                    go_simp
                    refine H_take (i := 4) (v := ?_) rfl (by as_aux_lemma => kernel_rfl) (by as_aux_lemma => kernel_rfl) (by as_aux_lemma => kernel_rfl) (fun _ _ _ h => h) (by rfl) hS ?_ ?_
                    rotate_left
                    · intro w' hw'; go_simp; with_reducible rfl
                    go_simp
                    refine H_take (i := 5) (v := ?_) rfl (by as_aux_lemma => kernel_rfl) (by as_aux_lemma => kernel_rfl) (by as_aux_lemma => kernel_rfl) (fun _ _ _ h => h) (by rfl) hS ?_ ?_
                    rotate_left
                    · intro w' hw'; go_simp; with_reducible rfl
                    go_simp
                    refine H_take (i := 6) (v := ?_) rfl (by as_aux_lemma => kernel_rfl) (by as_aux_lemma => kernel_rfl) (by as_aux_lemma => kernel_rfl) (fun _ _ _ h => h) (by rfl) hS ?_ ?_
                    rotate_left
                    · intro w' hw'; go_simp; with_reducible rfl
                    go_simp
                    refine H_take (i := 7) (v := ?_) rfl (by as_aux_lemma => kernel_rfl) (by as_aux_lemma => kernel_rfl) (by as_aux_lemma => kernel_rfl) (fun _ _ _ h => h) (by rfl) hS ?_ ?_
                    rotate_left
                    · intro w' hw'; go_simp; with_reducible rfl
                    go_simp
                    refine H_one (i := 8) (by as_aux_lemma => kernel_rfl) rfl (by rfl) ?_
                    go_simp
                    refine HRS.out.mono ?_
                    rintro e w6 ⟨v6, rfl, ho6⟩
                    rw [HNX.out] at ho6
                    obtain ⟨a6, c6, hv6⟩ := ho6.slice
                    obtain ⟨ln6, hln6⟩ : ∃ n6, n6 = (setsS l t (ks.take (z' + 1))).length := ⟨_, rfl⟩
                    rw [← hln6] at hv6
                    subst hv6
                    have hS6 : Below wr.heap.size wr w6 := hS.trans ho6.1
                    have hln6b : ln6 ≤ 30 * z + (z' + 1) := by
                      rw [hln6, ← HNX.out]
                      have := set_length_le ld t key
                      rw [HR.out.2.1] at this
                      omega
                    have H6 : Hid (AT w X4 (fun b => wr.drew.heap.size ≤ b ∧ b < w6.heap.size) ga (setsS l t ks) (setsS l t (ks.take (z' + 1))) (.slice a6 ln6 c6) w6 ∧ (setsS l t (ks.take (z' + 1))).length = ln6 ∧ setsS l t (ks.take (z' + 1)) = setsS l t (ks.take (z' + 1)) ∧ w6.heap[gx]? = some (.cells #[.int .i64 kd, .int .i64 t, .slice (some ⟨b2, off2, none⟩) sn sc] 45)) := Lib.hid ⟨(HR.out.1.next (below_drew1 _)).doc ho6, hln6.symm, rfl, old_below HR.out.2.2.2 hS6⟩
                    clear ho6 hln6
                    refine ⟨hS6, ?_⟩
                    go_simp
                    refine H_take (i := 9) (v := ?_) rfl (by as_aux_lemma => kernel_rfl) (by as_aux_lemma => kernel_rfl) (by as_aux_lemma => kernel_rfl) (fun _ _ _ h => h) (by rfl) hS6 ?_ ?_
                    rotate_left
                    · intro w' hw'; go_simp; with_reducible rfl
                    go_simp
                    refine wpAnyH_done (by as_aux_lemma => kernel_rfl) ?_ _
                    clear q1 q2 q3 hS hS6
                    go_wp2_with fail
                    go_roundg (sn - (z' + 1))
                    case measure => omega
                    case rel => exact ⟨z' + 1, ln6, c6, a6, _, _, by omega, by go_num, rfl, hln6b, Lib.hid ⟨H6.out.1, H6.out.2.1, rfl, H6.out.2.2.2⟩⟩
                  · have hzs2 : ¬ (z' : Int) < (sn : Int) := by omega
                    obtain rfl : z' = sn := by omega
                    have H7 : Hid (AT w X4 F' ga (setsS l t ks) (setsS l t ks) (.slice a' ln' c') wr ∧ (setsS l t ks).length = ln' ∧ ¬ X4 gx ∧ wr.heap[gx]? = some (.cells #[.int .i64 kd, .int .i64 t, .slice sa z' sc] 45)) := Lib.hid (by
                      have h1 := HR.out.1
                      have h2 := HR.out.2.1
                      rw [HR.out.2.2.1, HL4.out] at h1 h2
                      exact ⟨h1, h2, H4.out.2.2, HR.out.2.2.2⟩)
                    clear HR
                    go_wp2_with fail
                    go_meet
                    case rel => exact ⟨ln', c', a', _, _, _, rfl, by omega, H7⟩
            have p0 : (kd == 0) = false := by simpa using y0
            by_cases y1 : kd = 1
            · as_aux_lemma =>
                have p1 : (kd == 1) = true := by simp [y1]
                clear y1
                have HST := Lib.hid (Clear_any ga X l ks (fun k => k < w.heap.size) (.slice sa sn sc) (by rw [← HSN.out]; omega) Wa HTA.out.1.alm.alm (HKS.out Wa HTA.out.1.alm.below) fun k hk => ⟨Nat.lt_of_lt_of_le hk HTA.out.1.alm.below.size, fun hx => by have := (HTA.out.1.alm.lo k hx).1; omega⟩)
                go_wp2_with fail
                refine HST.out.mono ?_
                rintro e w4 ⟨rfl, hm4⟩
                have hat4 := HTA.out.1.set hm4
                have hx4 : w4.heap[gx]? = some (.cells #[.int .i64 kd, .int .i64 t, .slice sa sn sc] 45) := (hm4.1.block gx cz HTA.out.2.2.1).trans HTA.out.2.2.2
                have hnx4 : ¬ More X Wa w4 gx := fun h => h.elim HTA.out.2.2.1 fun h => by omega
                obtain ⟨X4, hX4⟩ : ∃ X4, X4 = More X Wa w4 := ⟨_, rfl⟩
                rw [← hX4] at hat4 hnx4
                have HL4 : Hid (clrsS l (ks.take sn) = clrsS l ks) := Lib.hid (by rw [HSN.out, List.take_length])
                have H4 := Lib.hid (And.intro hat4 (And.intro hx4 hnx4))
                clear HST hm4 hat4 hx4 hnx4 hX4 c0 c1 c2 cz
                go_wp2_with fail
                go_loopg [4, 8] sn (fun gk lv kv wr => ∃ (z' ln' c' : Nat) (a' : Option Addr) (ld : List Al) (F' : Nat → Prop), z' + gk = sn ∧ kv = .int .i64 (z' : Int) ∧ lv = .slice a' ln' c' ∧ ln' ≤ 30 * z ∧ Hid (AT w X4 F' ga (clrsS l ks) ld (.slice a' ln' c') wr ∧ ld.length = ln' ∧ ld = clrsS l (ks.take z') ∧ wr.heap[gx]? = some (.cells #[.int .i64 kd, .int .i64 t, .slice sa sn sc] 45)))
                case atStart => exact ⟨0, ln, c, a, l, F, by omega, rfl, rfl, by omega, Lib.hid ⟨H4.out.1, HTA.out.2.1, by simp [clrsS], H4.out.2.1⟩⟩
                case round =>
                  obtain ⟨z', ln', c', a', ld, F', hz', rfl, rfl, hln', HR⟩ := hrel
                  have d2 : wr.cell? ⟨gx, 2, none⟩ = some (.slice sa sn sc) := cell_of_row _ _ 2 _ _ _ HR.out.2.2.2
                  have dz : gx < wr.heap.size := lt_of_heap HR.out.2.2.2
                  by_cases hzs : z' < sn
                  · have hzs2 : (z' : Int) < (sn : Int) := by omega
                    obtain ⟨key, hkey⟩ : ∃ x, x = ks[z']'(by rw [← HSN.out]; exact hzs) := ⟨_, rfl⟩
                    obtain ⟨b2, off2, rfl, hb2, f0, f1, f2⟩ := (HKS.out wr HR.out.1.alm.below).elem' (m := sn) HSN.out z' hzs
                    rw [← hkey] at f0 f1 f2
                    have HNX : Hid (clrS ld key = clrsS l (ks.take (z' + 1))) := Lib.hid (by rw [clrsS_take (by rw [← HSN.out]; exact hzs), HR.out.2.2.1, hkey])
                    have HRS := Lib.hid (RefClear_any ld key (.slice a' ln' c') F' (by rw [HR.out.2.1]; omega) wr HR.out.1.row fun k hk => (HR.out.1.f k hk).2.1)
                    clear hkey f1 f2
                    go_wp2_with fail
                    refine HRS.out.mono ?_
                    rintro e w6 ⟨v6, rfl, ho6⟩
                    rw [HNX.out] at ho6
                    obtain ⟨a6, c6, hv6⟩ := ho6.slice
                    obtain ⟨ln6, hln6⟩ : ∃ n6, n6 = (clrsS l (ks.take (z' + 1))).length := ⟨_, rfl⟩
                    rw [← hln6] at hv6
                    subst hv6
                    have hln6b : ln6 ≤ 30 * z := by
                      rw [hln6, ← HNX.out]
                      have := List.length_filter_le (fun x : Al => x.2 != key) ld
                      rw [HR.out.2.1] at this
                      unfold Tm.clrS
                      omega
                    have H6 : Hid (AT w X4 (fun b => wr.heap.size ≤ b ∧ b < w6.heap.size) ga (clrsS l ks) (clrsS l (ks.take (z' + 1))) (.slice a6 ln6 c6) w6 ∧ (clrsS l (ks.take (z' + 1))).length = ln6 ∧ clrsS l (ks.take (z' + 1)) = clrsS l (ks.take (z' + 1)) ∧ w6.heap[gx]? = some (.cells #[.int .i64 kd, .int .i64 t, .slice (some ⟨b2, off2, none⟩) sn sc] 45)) := Lib.hid ⟨HR.out.1.doc ho6, hln6.symm, rfl, old_below HR.out.2.2.2 ho6.1⟩
                    clear ho6 hln6 f0 d2 dz
                    go_wp2_with fail
                    go_roundg (sn - (z' + 1))
                    case measure => omega
                    case rel => exact ⟨z' + 1, ln6, c6, a6, _, _, by omega, by go_num, rfl, hln6b, Lib.hid ⟨H6.out.1, H6.out.2.1, rfl, H6.out.2.2.2⟩⟩
                  · have hzs2 : ¬ (z' : Int) < (sn : Int) := by omega
                    obtain rfl : z' = sn := by omega
                    have H7 : Hid (AT w X4 F' ga (clrsS l ks) (clrsS l ks) (.slice a' ln' c') wr ∧ (clrsS l ks).length = ln' ∧ ¬ X4 gx ∧ wr.heap[gx]? = some (.cells #[.int .i64 kd, .int .i64 t, .slice sa z' sc] 45)) := Lib.hid (by
                      have h1 := HR.out.1
                      have h2 := HR.out.2.1
                      rw [HR.out.2.2.1, HL4.out] at h1 h2
                      exact ⟨h1, h2, H4.out.2.2, HR.out.2.2.2⟩)
                    clear HR
                    go_wp2_with fail
                    go_meet
                    case rel => exact ⟨ln', c', a', _, _, _, rfl, by omega, H7⟩
            have p1 : (kd == 1) = false := by simpa using y1
            by_cases y2 : kd = 2
            · as_aux_lemma =>
                have p2 : (kd == 2) = true := by simp [y2]
                clear y2
                have HDU := Lib.hid (Due_any ga X l t Wa HTA.out.1.alm.alm (fun q hq => (HTA.out.1.alm.lo q hq).2) (by rw [HTA.out.2.1]; omega))
                go_wp2_with fail
                refine HDU.out.mono ?_
                rintro e w4 ⟨xv, rfl, ho4, ha4, hx4⟩
                have hat4 := HTA.out.1.due ho4 ha4
                obtain ⟨N, hN⟩ : ∃ N, N = dueN l t := ⟨_, rfl⟩
                have hkl : (dueK l t).length = N := by rw [dueK_length, hN]
                have hNl : N ≤ ln := by rw [hN, ← HTA.out.2.1]; exact dueN_le l t
                obtain ⟨xa, xc, rfl⟩ := hx4.slice
                rw [hkl]
                rw [hkl] at hx4
                rw [← hN] at hat4
                have hb4 : w4.heap[gx]? = some (.cells #[.int .i64 kd, .int .i64 t, .slice sa sn sc] 45) := (ho4.block gx cz HTA.out.2.2.1).trans HTA.out.2.2.2
                have HN2 := Lib.hid hN
                have HKL := Lib.hid hkl
                have H4 := Lib.hid (And.intro hat4 (And.intro hb4 hx4))
                have HXL : Hid (∀ k, (Value.slice xa N xc).ownBlock = some k → Wa.heap.size ≤ k) := Lib.hid fun k hk => (hx4.block_lt hk).1
                clear HDU ho4 ha4 hx4 hat4 hN hkl hb4 c0 c1 c2 cz
                go_wp2_with fail
                go_loopg [10] N (fun gk nv wr => ∃ p : Nat, p + gk = N ∧ nv = .int .i64 (p : Int) ∧ Hid (AT w X F ga (l.drop N) l (.slice a ln c) wr ∧ wr.heap[gx]? = some (.cells #[.int .i64 kd, .int .i64 t, .slice sa sn sc] 45) ∧ IR Wa.heap.size (dueK l t) (.slice xa N xc) wr))
                case atStart => exact ⟨0, by omega, rfl, H4⟩
                case round =>
                  obtain ⟨p, hp, rfl, HR⟩ := hrel
                  have hst := due_step (l := l) (now := t) (p := p) (by rw [← HN2.out]; omega)
                  rw [← HN2.out, HTA.out.2.1] at hst
                  have d1 : wr.cell? ⟨gx, 1, none⟩ = some (.int .i64 t) := cell_of_row _ _ 1 _ _ _ HR.out.2.1
                  have dz : gx < wr.heap.size := lt_of_heap HR.out.2.1
                  rcases HR.out.1.sh with hv | ⟨b, off, n9, c9, hv⟩
                  · cases hv
                    have hp0 : p = 0 := by omega
                    have hN0 : N = 0 := by omega
                    subst hp0
                    subst hN0
                    have H9 : Hid (AT w X F ga (l.drop 0) (l.drop 0) (.slice none 0 0) wr ∧ (l.drop 0).length = 0 ∧ ¬ X gx ∧ wr.heap[gx]? = some (.cells #[.int .i64 kd, .int .i64 t, .slice sa sn sc] 45)) := Lib.hid ⟨HR.out.1, HTA.out.2.1, HTA.out.2.2.1, HR.out.2.1⟩
                    clear hst
                    go_wp2_with fail
                    go_quiet (fail)
                    obtain ⟨w5, hw5⟩ : ∃ w5, w5 = wr.drewN nq := ⟨_, rfl⟩
                    rw [← hw5]
                    have HB5 : Hid (Below wr.heap.size wr w5) := Lib.hid (by rw [hw5]; exact below_drewN _ _)
                    clear hw5 d1 dz
                    go_wp2_with fail
                    go_meet
                    case rel => exact ⟨0, 0, none, _, _, _, rfl, by omega, Lib.hid ⟨H9.out.1.next HB5.out, H9.out.2.1, H9.out.2.2.1, old_below H9.out.2.2.2 HB5.out⟩⟩
                  · cases hv
                    by_cases hpl : p < ln
                    · have hpl2 : (p : Int) < (ln : Int) := by omega
                      have hrow := HR.out.1.row
                      obtain ⟨b', off', hbo, -, f0, f1⟩ := hrow.elem p (by rw [HTA.out.2.1]; exact hpl)
                      cases hbo
                      obtain ⟨x1, hx1⟩ : ∃ x, x = (at' l p).1 := ⟨_, rfl⟩
                      obtain ⟨x2, hx2⟩ : ∃ x, x = (at' l p).2 := ⟨_, rfl⟩
                      rw [← hx1] at f0 hst
                      rw [← hx2] at f1
                      by_cases hle : x1 ≤ t
                      · have hpN : p < N := (hst.1 hpl).1 hle
                        have hpN2 : ¬ (N : Int) ≤ (p : Int) := by omega
                        have hpN3 : (p : Int) < (N : Int) := by omega
                        obtain ⟨hk2, hk3⟩ := dueK_at (l := l) (now := t) (p := p) (by rw [← HN2.out]; exact hpN)
                        obtain ⟨b3, off3, rfl, -, g0, -, -⟩ := HR.out.2.2.rep.elem' (m := N) HKL.out.symm p hpN
                        rw [hk3, ← hx2] at g0
                        clear hst hrow hx1 hx2 hk2 hk3
                        go_wp2_with fail
                        go_quiet (fail)
                        obtain ⟨w5, hw5⟩ : ∃ w5, w5 = wr.drewN nq := ⟨_, rfl⟩
                        rw [← hw5]
                        have HB5 : Hid (Below wr.heap.size wr w5) := Lib.hid (by rw [hw5]; exact below_drewN _ _)
                        have f1 : w5.cell? ⟨b, off + p * 2 + 1, none⟩ = some (.int .i64 x2) := by rw [hw5]; exact f1
                        have g0 : w5.cell? ⟨b3, off3 + p, none⟩ = some (.int .i64 x2) := by rw [hw5]; exact g0
                        clear hw5 d1 dz f0
                        go_wp2_with fail
                        go_quiet (fail)
                        obtain ⟨w6, hw6⟩ : ∃ w6, w6 = w5.drewN nq := ⟨_, rfl⟩
                        rw [← hw6]
                        have HB6 : Hid (Below wr.heap.size wr w6) := Lib.hid (by rw [hw6]; exact HB5.out.trans ((below_drewN _ _).mono HB5.out.size))
                        clear hw6
                        go_wp2_with fail
                        go_roundg (N - (p + 1))
                        case measure => omega
                        case rel => exact ⟨p + 1, by omega, by go_num, Lib.hid ⟨HR.out.1.next HB6.out, old_below HR.out.2.1 HB6.out, HR.out.2.2.next HB6.out⟩⟩
                      · have hpN : p = N := by
                          have : ¬ p < N := fun h => hle ((hst.1 hpl).2 h)
                          omega
                        clear hrow f1 hx1 hx2
                        have hat9 := HR.out.1
                        have hl9 := HTA.out.2.1
                        have hdrop := AT.drop (n := p) (b := b) (off := off) (c := c) (l := l) (by rw [hl9]; exact hat9) (by rw [hl9]; omega)
                        rw [hl9] at hdrop
                        subst hpN
                        by_cases e9 : c = p
                        · rw [if_pos e9] at hdrop
                          subst e9
                          rw [Nat.sub_self] at hdrop
                          have H9 : Hid (AT w X F ga (l.drop c) (l.drop c) (.slice (some ⟨b, off, none⟩) (ln - c) 0) wr ∧ (l.drop c).length = ln - c ∧ ¬ X gx ∧ wr.heap[gx]? = some (.cells #[.int .i64 kd, .int .i64 t, .slice sa sn sc] 45)) := Lib.hid ⟨hdrop, by rw [List.length_drop, hl9], HTA.out.2.2.1, HR.out.2.1⟩
                          clear hat9 hl9 hdrop hst
                          go_wp2_with fail
                          go_quiet (fail)
                          obtain ⟨w5, hw5⟩ : ∃ w5, w5 = wr.drewN nq := ⟨_, rfl⟩
                          rw [← hw5]
                          have HB5 : Hid (Below wr.heap.size wr w5) := Lib.hid (by rw [hw5]; exact below_drewN _ _)
                          clear hw5 d1 dz
                          go_wp2_with fail
                          go_meet
                          case rel => exact ⟨_, _, _, _, _, _, rfl, by omega, Lib.hid ⟨H9.out.1.next HB5.out, H9.out.2.1, H9.out.2.2.1, old_below H9.out.2.2.2 HB5.out⟩⟩
                        · rw [if_neg e9] at hdrop
                          have H9 : Hid (AT w X F ga (l.drop p) (l.drop p) (.slice (some ⟨b, off + p * 2, none⟩) (ln - p) (c - p)) wr ∧ (l.drop p).length = ln - p ∧ ¬ X gx ∧ wr.heap[gx]? = some (.cells #[.int .i64 kd, .int .i64 t, .slice sa sn sc] 45)) := Lib.hid ⟨hdrop, by rw [List.length_drop, hl9], HTA.out.2.2.1, HR.out.2.1⟩
                          clear hat9 hl9 hdrop hst
                          go_wp2_with fail
                          go_quiet (fail)
                          obtain ⟨w5, hw5⟩ : ∃ w5, w5 = wr.drewN nq := ⟨_, rfl⟩
                          rw [← hw5]
                          have HB5 : Hid (Below wr.heap.size wr w5) := Lib.hid (by rw [hw5]; exact below_drewN _ _)
                          clear hw5 d1 dz
                          go_wp2_with fail
                          go_meet
                          case rel => exact ⟨_, _, _, _, _, _, rfl, by omega, Lib.hid ⟨H9.out.1.next HB5.out, H9.out.2.1, H9.out.2.2.1, old_below H9.out.2.2.2 HB5.out⟩⟩
                    · have hpl2 : ¬ (p : Int) < (ln : Int) := by omega
                      have hpN : p = N := hst.2 hpl
                      have hat9 := HR.out.1
                      have hl9 := HTA.out.2.1
                      have hdrop := AT.drop (n := p) (b := b) (off := off) (c := c) (l := l) (by rw [hl9]; exact hat9) (by rw [hl9]; omega)
                      rw [hl9] at hdrop
                      subst hpN
                      by_cases e9 : c = p
                      · rw [if_pos e9] at hdrop
                        subst e9
                        rw [Nat.sub_self] at hdrop
                        have H9 : Hid (AT w X F ga (l.drop c) (l.drop c) (.slice (some ⟨b, off, none⟩) (ln - c) 0) wr ∧ (l.drop c).length = ln - c ∧ ¬ X gx ∧ wr.heap[gx]? = some (.cells #[.int .i64 kd, .int .i64 t, .slice sa sn sc] 45)) := Lib.hid ⟨hdrop, by rw [List.length_drop, hl9], HTA.out.2.2.1, HR.out.2.1⟩
                        clear hat9 hl9 hdrop hst
                        go_wp2_with fail
                        go_quiet (fail)
                        obtain ⟨w5, hw5⟩ : ∃ w5, w5 = wr.drewN nq := ⟨_, rfl⟩
                        rw [← hw5]
                        have HB5 : Hid (Below wr.heap.size wr w5) := Lib.hid (by rw [hw5]; exact below_drewN _ _)
                        clear hw5 d1 dz
                        go_wp2_with fail
                        go_meet
                        case rel => exact ⟨_, _, _, _, _, _, rfl, by omega, Lib.hid ⟨H9.out.1.next HB5.out, H9.out.2.1, H9.out.2.2.1, old_below H9.out.2.2.2 HB5.out⟩⟩
                      · rw [if_neg e9] at hdrop
                        have H9 : Hid (AT w X F ga (l.drop p) (l.drop p) (.slice (some ⟨b, off + p * 2, none⟩) (ln - p) (c - p)) wr ∧ (l.drop p).length = ln - p ∧ ¬ X gx ∧ wr.heap[gx]? = some (.cells #[.int .i64 kd, .int .i64 t, .slice sa sn sc] 45)) := Lib.hid ⟨hdrop, by rw [List.length_drop, hl9], HTA.out.2.2.1, HR.out.2.1⟩
                        clear hat9 hl9 hdrop hst
                        go_wp2_with fail
                        go_quiet (fail)
                        obtain ⟨w5, hw5⟩ : ∃ w5, w5 = wr.drewN nq := ⟨_, rfl⟩
                        rw [← hw5]
                        have HB5 : Hid (Below wr.heap.size wr w5) := Lib.hid (by rw [hw5]; exact below_drewN _ _)
                        clear hw5 d1 dz
                        go_wp2_with fail
                        go_meet
                        case rel => exact ⟨_, _, _, _, _, _, rfl, by omega, Lib.hid ⟨H9.out.1.next HB5.out, H9.out.2.1, H9.out.2.2.1, old_below H9.out.2.2.2 HB5.out⟩⟩
            have p2 : (kd == 2) = false := by simpa using y2
            as_aux_lemma =>
              go_wp2_with fail
              go_meet
              case rel => exact ⟨ln, c, a, l, X, F, rfl, by omega, Lib.hid HTA.out⟩
          case rest =>
            as_aux_lemma =>
              obtain ⟨ln', c', a', l', X', F', rfl, hln', HC⟩ := hcut
              have HNX := Next_any ga X' l' wc HC.out.1.alm.alm
              have HLN := Len_any ga X' l' wc HC.out.1.alm.alm
              rw [HC.out.2.1] at HLN
              have HLN := Lib.hid HLN
              clear c0 c1 c2 cz
              cases hl : l' with
              | nil =>
                rw [hl] at HNX
                have HNX : Hid (Calls Try.prog 21 #[.pointer (some ⟨ga, 0, none⟩)] wc fun e w' => e = .returned (.tuple #[.int .i64 0, .bool false]) ∧ w' = wc) := Lib.hid HNX
                have hln0 : ln' = 0 := by have := HC.out.2.1; rw [hl] at this; simp at this; omega
                subst hln0
                clear hl
                go_wp2_with fail
                refine HNX.out.mono ?_
                rintro e w4 ⟨rfl, rfl⟩
                go_wp2_with fail
                refine HLN.out.mono ?_
                rintro e w5 ⟨rfl, rfl⟩
                clear HNX HLN
                go_wp2_with fail
                go_loopg [13, 14, 15] 0 (fun gk kv _ _ wr => kv = .int .i64 0 ∧ Hid (AT w X' F' ga l' l' (.slice a' 0 c') wr ∧ wr.heap[gx]? = some (.cells #[.int .i64 kd, .int .i64 t, .slice sa sn sc] 45)))
                case atStart => exact ⟨rfl, Lib.hid ⟨HC.out.1, HC.out.2.2.2⟩⟩
                case round =>
                  obtain ⟨rfl, HR⟩ := hrel
                  go_wp2_with fail
                  go_loopg [16, 17, 18, 19, 20] sn (fun gk kv _ _ _ _ wr => ∃ k2 : Nat, k2 + gk = sn ∧ kv = .int .i64 (k2 : Int) ∧ Hid (AT w X' F' ga l' l' (.slice a' 0 c') wr ∧ wr.heap[gx]? = some (.cells #[.int .i64 kd, .int .i64 t, .slice sa sn sc] 45)))
                  case atStart => exact ⟨0, by omega, rfl, HR⟩
                  case round =>
                    obtain ⟨k2, hk2, rfl, HR2⟩ := hrel
                    have d2 : wr.cell? ⟨gx, 2, none⟩ = some (.slice sa sn sc) := cell_of_row _ _ 2 _ _ _ HR2.out.2
                    have dz : gx < wr.heap.size := lt_of_heap HR2.out.2
                    by_cases hks2 : k2 < sn
                    · have hks3 : (k2 : Int) < (sn : Int) := by omega
                      obtain ⟨key, hkey⟩ : ∃ x, x = ks[k2]'(by rw [← HSN.out]; exact hks2) := ⟨_, rfl⟩
                      obtain ⟨b2, off2, rfl, hb2, g0, g1, g2⟩ := (HKS.out wr HR2.out.1.alm.below).elem' (m := sn) HSN.out k2 hks2
                      rw [← hkey] at g0 g1 g2
                      have HAT := At_any ga X' l' key ⟨g1, g2⟩ wr HR2.out.1.alm.alm
                      have htv : timeV (timeOf l' key) = .tuple #[.int .i64 0, .bool false] := by
                        have h := time_has (l := l') (key := key)
                        rw [HC.out.2.1] at h
                        exact h.2 (by simp [hasK])
                      rw [htv] at HAT
                      have HAT := Lib.hid HAT
                      clear hkey htv g1 g2
                      go_wp2_with fail
                      refine HAT.out.mono ?_
                      rintro e w6 ⟨rfl, rfl⟩
                      clear HAT g0 d2 dz
                      go_wp2_with fail
                      go_loopg [19, 20] 0 (fun gk tv jv wr => jv = .int .i64 0 ∧ tv = .bool false ∧ Hid (AT w X' F' ga l' l' (.slice a' 0 c') wr ∧ wr.heap[gx]? = some (.cells #[.int .i64 kd, .int .i64 t, .slice (some ⟨b2, off2, none⟩) sn sc] 45)))
                      case atStart => exact ⟨rfl, rfl, HR2⟩
                      case round =>
                        obtain ⟨rfl, rfl, HR3⟩ := hrel
                        go_wp2_with fail
                        go_roundg (sn - (k2 + 1))
                        case measure => omega
                        case rel => exact ⟨k2 + 1, by omega, by go_num, HR3⟩
                    · have hks3 : ¬ (k2 : Int) < (sn : Int) := by omega
                      go_wp2_with fail
                      go_roundg (n - (z + 1))
                      case measure => omega
                      case rel => exact ⟨z + 1, 0, c', a', l', X', F', by omega, by go_num, rfl, hln', Lib.hid ⟨HR2.out.1, HC.out.2.1⟩⟩
              | cons h r =>
                rw [hl] at HNX
                obtain ⟨x1, hx1⟩ : ∃ x, x = h.1 := ⟨_, rfl⟩
                have HNX : Hid (Calls Try.prog 21 #[.pointer (some ⟨ga, 0, none⟩)] wc fun e w' => e = .returned (.tuple #[.int .i64 x1, .bool true]) ∧ w' = wc) := Lib.hid (by rw [hx1]; exact HNX)
                have hln1 : 0 < ln' := by have := HC.out.2.1; rw [hl] at this; simp at this; omega
                have hln0 : (0 : Int) < (ln' : Int) := by omega
                obtain ⟨b9, off9, hab, -, f0, -⟩ := HC.out.1.row.elem 0 (by rw [HC.out.2.1]; exact hln1)
                cases hab
                have f0 : wc.cell? ⟨b9, off9, none⟩ = some (.int .i64 x1) := by
                  rw [hx1]
                  have e : (at' l' 0).1 = h.1 := by rw [hl]; rfl
                  rw [← e]
                  simpa using f0
                clear hl hx1
                go_wp2_with fail
                refine HNX.out.mono ?_
                rintro e w4 ⟨rfl, rfl⟩
                go_wp2_with fail
                refine HLN.out.mono ?_
                rintro e w5 ⟨rfl, rfl⟩
                clear HNX HLN
                go_wp2_with fail
                clear f0
                go_loopg [13, 14, 15] ln' (fun gk kv _ _ wr => ∃ k : Nat, k + gk = ln' ∧ kv = .int .i64 (k : Int) ∧ Hid (AT w X' F' ga l' l' (.slice (some ⟨b9, off9, none⟩) ln' c') wr ∧ wr.heap[gx]? = some (.cells #[.int .i64 kd, .int .i64 t, .slice sa sn sc] 45)))
                case atStart => exact ⟨0, by omega, rfl, Lib.hid ⟨HC.out.1, HC.out.2.2.2⟩⟩
                case round =>
                  obtain ⟨k, hk, rfl, HR⟩ := hrel
                  by_cases hkl : k < ln'
                  · have hkl2 : (k : Int) < (ln' : Int) := by omega
                    have hkl3 : k < l'.length := by rw [HC.out.2.1]; exact hkl
                    obtain ⟨b1, off1, hab1, -, f0, f1⟩ := HR.out.1.row.elem k hkl3
                    cases hab1
                    have hT := HR.out.1.alm.alm.time hkl3
                    have hrg := (HR.out.1.alm.alm.rng.at hkl3).2
                    have HAT := At_any ga X' l' (at' l' k).2 hrg wr HR.out.1.alm.alm
                    rw [hT] at HAT
                    obtain ⟨x1, hx1⟩ : ∃ x, x = (at' l' k).1 := ⟨_, rfl⟩
                    obtain ⟨x2, hx2⟩ : ∃ x, x = (at' l' k).2 := ⟨_, rfl⟩
                    rw [← hx1] at f0 HAT
                    rw [← hx2] at f1 HAT
                    have HAT := Lib.hid HAT
                    clear hT hrg hx1 hx2 hkl3
                    go_wp2_with fail
                    refine HAT.out.mono ?_
                    rintro e w6 ⟨rfl, rfl⟩
                    go_wp2_with fail
                    go_roundg (ln' - (k + 1))
                    case measure => omega
                    case rel => exact ⟨k + 1, by omega, by go_num, HR⟩
                  · have hkl2 : ¬ (k : Int) < (ln' : Int) := by omega
                    go_wp2_with fail
                    go_loopg [16, 17, 18, 19, 20] sn (fun gk kv _ _ _ _ wr => ∃ k2 : Nat, k2 + gk = sn ∧ kv = .int .i64 (k2 : Int) ∧ Hid (AT w X' F' ga l' l' (.slice (some ⟨b9, off9, none⟩) ln' c') wr ∧ wr.heap[gx]? = some (.cells #[.int .i64 kd, .int .i64 t, .slice sa sn sc] 45)))
                    case atStart => exact ⟨0, by omega, rfl, HR⟩
                    case round =>
                      obtain ⟨k2, hk2, rfl, HR2⟩ := hrel
                      have d2 : wr.cell? ⟨gx, 2, none⟩ = some (.slice sa sn sc) := cell_of_row _ _ 2 _ _ _ HR2.out.2
                      have dz : gx < wr.heap.size := lt_of_heap HR2.out.2
                      by_cases hks2 : k2 < sn
                      · have hks3 : (k2 : Int) < (sn : Int) := by omega
                        obtain ⟨key, hkey⟩ : ∃ x, x = ks[k2]'(by rw [← HSN.out]; exact hks2) := ⟨_, rfl⟩
                        have HKEY : Hid (∀ w', Below w.heap.size w w' → ∃ b2 off2, sa = some ⟨b2, off2, none⟩ ∧ w'.cell? ⟨b2, off2 + k2, none⟩ = some (.int .i64 key)) := Lib.hid fun w' hb => by
                          obtain ⟨b2, off2, e1, -, e2, -⟩ := (HKS.out w' hb).elem' (m := sn) HSN.out k2 hks2
                          exact ⟨b2, off2, e1, by rw [hkey]; exact e2⟩
                        obtain ⟨b2, off2, rfl, hb2, g0, g1, g2⟩ := (HKS.out wr HR2.out.1.alm.below).elem' (m := sn) HSN.out k2 hks2
                        rw [← hkey] at g0 g1 g2
                        have HAT := At_any ga X' l' key ⟨g1, g2⟩ wr HR2.out.1.alm.alm
                        obtain ⟨tt, hb, htv, hhb, htt⟩ : ∃ (tt : Int) (hb : Bool), timeV (timeOf l' key) = .tuple #[.int .i64 tt, .bool hb] ∧ hb = hasK l' ln' key ∧ (hb = false → tt = 0) := by
                          have h := time_has (l := l') (key := key)
                          rw [HC.out.2.1] at h
                          cases hh : hasK l' ln' key with
                          | true =>
                            obtain ⟨tt, htt⟩ := h.1 hh
                            exact ⟨tt, true, htt, rfl, fun h => by cases h⟩
                          | false => exact ⟨0, false, h.2 hh, rfl, fun _ => rfl⟩
                        rw [htv] at HAT
                        have HAT := Lib.hid HAT
                        have HHB := Lib.hid (And.intro hhb htt)
                        clear hkey htv hhb htt g1 g2
                        go_wp2_with fail
                        refine HAT.out.mono ?_
                        rintro e w6 ⟨rfl, rfl⟩
                        clear HAT g0 d2 dz
                        go_wp2_with fail
                        go_loopg [19, 20] ln' (fun gk tv jv wr => ∃ (j : Nat) (th : Bool), j + gk = ln' ∧ jv = .int .i64 (j : Int) ∧ tv = .bool th ∧ Hid (th = hasK l' j key) ∧ Hid (AT w X' F' ga l' l' (.slice (some ⟨b9, off9, none⟩) ln' c') wr ∧ wr.heap[gx]? = some (.cells #[.int .i64 kd, .int .i64 t, .slice (some ⟨b2, off2, none⟩) sn sc] 45)))
                        case atStart => exact ⟨0, false, by omega, rfl, rfl, Lib.hid (by simp [hasK]), HR2⟩
                        case round =>
                          obtain ⟨j, th, hj, rfl, rfl, HTH, HR3⟩ := hrel
                          by_cases hjl : j < ln'
                          · have hjl2 : (j : Int) < (ln' : Int) := by omega
                            have hjl3 : j < l'.length := by rw [HC.out.2.1]; exact hjl
                            have HMR := Lib.hid (hasK_more hjl3 key)
                            cases th with
                            | true =>
                              have HT2 : Hid (true = hasK l' (j + 1) key) := Lib.hid (by rw [HMR.out, ← HTH.out]; rfl)
                              clear HTH HMR hjl3
                              go_wp2_with fail
                              go_quiet (fail)
                              obtain ⟨w7, hw7⟩ : ∃ w7, w7 = wr.drewN nq := ⟨_, rfl⟩
                              rw [← hw7]
                              have HB7 : Hid (Below wr.heap.size wr w7) := Lib.hid (by rw [hw7]; exact below_drewN _ _)
                              clear hw7
                              go_wp2_with fail
                              go_roundg (ln' - (j + 1))
                              case measure => omega
                              case rel => exact ⟨j + 1, true, by omega, by go_num, rfl, HT2, Lib.hid ⟨HR3.out.1.next HB7.out, old_below HR3.out.2 HB7.out⟩⟩
                            | false =>
                              obtain ⟨b1, off1, hab1, -, f0, f1⟩ := HR3.out.1.row.elem j hjl3
                              cases hab1
                              clear f0
                              obtain ⟨x2, hx2⟩ : ∃ x, x = (at' l' j).2 := ⟨_, rfl⟩
                              rw [← hx2] at f1
                              have HT2 : Hid ((x2 == key) = hasK l' (j + 1) key) := Lib.hid (by rw [HMR.out, ← HTH.out, hx2]; rfl)
                              obtain ⟨b4, off4, hsb, g0⟩ := HKEY.out wr HR3.out.1.alm.below
                              cases hsb
                              have d2 : wr.cell? ⟨gx, 2, none⟩ = some (.slice (some ⟨b2, off2, none⟩) sn sc) := cell_of_row _ _ 2 _ _ _ HR3.out.2
                              have dz : gx < wr.heap.size := lt_of_heap HR3.out.2
                              clear HTH HMR hjl3 hx2
                              go_wp2_with fail
                              go_quiet (fail)
                              obtain ⟨w7, hw7⟩ : ∃ w7, w7 = wr.drewN nq := ⟨_, rfl⟩
                              rw [← hw7]
                              have HB7 : Hid (Below wr.heap.size wr w7) := Lib.hid (by rw [hw7]; exact below_drewN _ _)
                              clear hw7 f1 g0 d2 dz
                              go_wp2_with fail
                              go_roundg (ln' - (j + 1))
                              case measure => omega
                              case rel => exact ⟨j + 1, _, by omega, by go_num, rfl, HT2, Lib.hid ⟨HR3.out.1.next HB7.out, old_below HR3.out.2 HB7.out⟩⟩
                          · have hjl2 : ¬ (j : Int) < (ln' : Int) := by omega
                            have hjl3 : j = ln' := by omega
                            have hthb : th = hb := by rw [HTH.out, HHB.out.1, hjl3]
                            subst hthb
                            cases th with
                            | true =>
                              clear hjl3
                              go_wp2_with fail
                              go_roundg (sn - (k2 + 1))
                              case measure => omega
                              case rel => exact ⟨k2 + 1, by omega, by go_num, HR3⟩
                            | false =>
                              have ht0' : tt = 0 := HHB.out.2 rfl
                              subst ht0'
                              clear hjl3
                              go_wp2_with fail
                              go_roundg (sn - (k2 + 1))
                              case measure => omega
                              case rel => exact ⟨k2 + 1, by omega, by go_num, HR3⟩
                      · have hks3 : ¬ (k2 : Int) < (sn : Int) := by omega
                        go_wp2_with fail
                        go_roundg (n - (z + 1))
                        case measure => omega
                        case rel => exact ⟨z + 1, ln', c', (some ⟨b9, off9, none⟩), l', X', F', by omega, by go_num, rfl, hln', Lib.hid ⟨HR2.out.1, HC.out.2.1⟩⟩
        · have hs30' : (30 : Int) < (sn : Int) := by omega
          go_wp2_with fail
          go_ret
          exact ⟨rfl, HT.out.1.alm.below.trans ((below_alloc _ _).mono HT.out.1.alm.below.size)⟩
      · have hzn2 : ¬ (z : Int) < (n : Int) := by omega
        go_wp2_with fail
        go_ret
        exact ⟨rfl, HT.out.1.alm.below⟩
  · have h1' : (60 : Int) < (n : Int) := by omega
    go_wp2_with fail
    refine (awake10_any _).mono ?_
    rintro e w9 ⟨rfl, hb9⟩
    have HB9 : Hid (Below w.heap.size w w9) := Lib.hid (HB2.out.trans (hb9.mono HB2.out.size))
    clear hb9
    go_wp2_with fail
    go_ret
    exact ⟨rfl, HB9.out⟩
end Go.Proofs.Ytckankoaiapcoaa.M

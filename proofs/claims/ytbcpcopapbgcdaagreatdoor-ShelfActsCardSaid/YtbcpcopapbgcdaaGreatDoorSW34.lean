/- The document's disk: Crash. -/
import Derived.Test.YtbcpcopapbgcdaaGreatDoorSW32
import Derived.Deep.QuietTactic
import Derived.BigQuiet
namespace Go.Proofs.YtbcpcopapbgcdaaGreatDoor.M
open Go.RowKit
open D (Fl Dk)

theorem crashFs_length : ∀ (fs : List Fl) (ks : List Int), (D.crashFs fs ks).length = fs.length
  | [], _ => rfl
  | f :: r, ks => by simp [D.crashFs, crashFs_length r]

theorem crashFs_get : ∀ (fs : List Fl) (ks : List Int) (i : Nat) (h : i < fs.length) (h2 : i < (D.crashFs fs ks).length), (D.crashFs fs ks)[i] = { fs[i] with b := fs[i].b.take (D.stays fs[i] ks[i]?), safe := D.stays fs[i] ks[i]? }
  | f :: r, ks, 0, _, _ => by cases ks <;> simp [D.crashFs]
  | f :: r, ks, i + 1, h, h2 => by
    have := crashFs_get r ks.tail i (by simpa using h) (by rw [crashFs_length]; simpa using h)
    simp only [D.crashFs, List.getElem_cons_succ]
    rw [this, List.getElem?_tail]

theorem stays_leR {f : Fl} (h : f.safe ≤ f.b.length) (k : Option Int) : D.stays f k ≤ f.b.length := by
  unfold D.stays
  cases k with
  | none => exact h
  | some k => simp only; split <;> omega

/-- The files, the first k of them behind the crash. -/
def midC (fs : List Fl) (ks : List Int) (k : Nat) : List Fl := (D.crashFs fs ks).take k ++ fs.drop k

theorem midC_next (fs : List Fl) (ks : List Int) (k : Nat) (h : k < fs.length) : midC fs ks (k + 1) = (midC fs ks k).set k { fs[k] with b := fs[k].b.take (D.stays fs[k] ks[k]?), safe := D.stays fs[k] ks[k]? } := by
  have hl : k < (D.crashFs fs ks).length := by rw [crashFs_length]; exact h
  unfold midC
  rw [List.take_succ_eq_append_getElem hl, crashFs_get fs ks k h hl, List.set_append_right _ _ (by simp; omega), show k - (List.take k (D.crashFs fs ks)).length = 0 from by simp; omega, List.drop_eq_getElem_cons h]
  simp only [List.set_cons_zero, List.append_assoc, List.cons_append, List.nil_append]

theorem midC_at (fs : List Fl) (ks : List Int) (k : Nat) (h : k < fs.length) : (midC fs ks k)[k]? = some fs[k] := by
  unfold midC
  rw [List.getElem?_append_right (by simp [crashFs_length]; omega), List.length_take, crashFs_length, Nat.min_eq_left (Nat.le_of_lt h), Nat.sub_self, List.getElem?_drop, Nat.add_zero, List.getElem?_eq_getElem h]

theorem midC_length (fs : List Fl) (ks : List Int) (k : Nat) (h : k ≤ fs.length) : (midC fs ks k).length = fs.length := by
  unfold midC; simp [crashFs_length]; omega

/-- The state at the head of Crash's loop. -/
def CraAt (w : World) (X : Nat → Prop) (gd _ga n _c : Nat) (d : Dk) (ks : List Int) (k : Nat) (gone : Int) (wr : World) : Prop :=
  k ≤ d.fs.length ∧ Only X w wr ∧ wr.heap.size = w.heap.size ∧ gone = (D.used (d.fs.take k) : Int) - (D.used ((D.crashFs d.fs ks).take k) : Int) ∧
    ∃ vl fv, fv.length = n ∧ DkAt wr X gd { d with fs := midC d.fs ks k, ends := false } vl fv

theorem used_crash (fs : List Fl) (ks : List Int) (hs : ∀ f ∈ fs, f.safe ≤ f.b.length) : ∀ k, k ≤ fs.length → D.used ((D.crashFs fs ks).take k) ≤ D.used (fs.take k)
  | 0, _ => by simp [D.used]
  | k + 1, h => by
    have hl : k < (D.crashFs fs ks).length := by rw [crashFs_length]; omega
    have ih := used_crash fs ks hs k (by omega)
    rw [D.used_take fs k (by omega), D.used_take (D.crashFs fs ks) k hl, crashFs_get fs ks k (by omega) hl]
    simp only [List.length_take]
    have := stays_leR (hs fs[k] (List.getElem_mem (by omega))) ks[k]?
    omega

theorem cra_bound {d : Dk} {ks : List Int} {k : Nat} {gone : Int} {f : Fl} (hs : ∀ f ∈ d.fs, f.safe ≤ f.b.length) (hu : D.used d.fs ≤ 1099511627776) (hk : k < d.fs.length) (hf : f = d.fs[k])
    (hg : gone = (D.used (d.fs.take k) : Int) - (D.used ((D.crashFs d.fs ks).take k) : Int)) : 0 ≤ gone ∧ gone ≤ 1099511627776 ∧ gone + (f.b.length : Int) ≤ 1099511627776 := by
  have h1 := used_crash d.fs ks hs k (by omega)
  have h2 := D.used_le d.fs (k + 1)
  rw [D.used_take d.fs k hk, ← hf] at h2
  omega

theorem CraAt.drew {w wr : World} {X : Nat → Prop} {gd ga n c k : Nat} {d : Dk} {ks : List Int} {gone : Int} (h : CraAt w X gd ga n c d ks k gone wr) : CraAt w X gd ga n c d ks k gone wr.drew := by
  obtain ⟨h1, h2, h3, h4, vl, fv, h5, h6⟩ := h
  exact ⟨h1, ⟨h2.os, h2.tape, h2.output, h2.size, h2.block⟩, h3, h4, vl, fv, h5, h6.same (fun _ h => h) fun _ _ => rfl⟩

theorem cra_put {w wr W0 : World} {X : Nat → Prop} {gd ga n lc k N : Nat} {d : Dk} {ks : List Int} {gone : Int} {fw : List (Fl × Value)} {f : Fl} {ba : Option Addr} {bc : Nat} (hk : k < d.fs.length) (ho : Only X w wr) (hsz : wr.heap.size = w.heap.size)
    (hg : gone = (D.used (d.fs.take k) : Int) - (D.used ((D.crashFs d.fs ks).take k) : Int)) (hfw : fw.length = n) (hat : DkAt wr X gd { d with fs := midC d.fs ks k, ends := false } (.slice (some ⟨ga, 0, none⟩) fw.length lc) fw)
    (hX : ∀ k, X k → k < w.heap.size) (hlt : k < fw.length) (hfe : fw[k] = (f, .slice ba f.b.length bc)) (hf : f = d.fs[k]) (hN : N = D.stays f ks[k]?) (hNl : N ≤ f.b.length) (hXa : X ga) (hW : ∀ j : Nat, W0.heap[j]? = wr.heap[j]?) (hWs : W0.heap.size = wr.heap.size)
    (hWw : W0.os = wr.os ∧ W0.tape = wr.tape ∧ W0.output = wr.output) :
    CraAt w X gd 0 n 0 d ks (k + 1) (gone + (f.b.length : Int) - (N : Int)) ((W0.setCell ⟨ga, k * 3 + 1, none⟩ (.slice ba N bc)).setCell ⟨ga, k * 3 + 2, none⟩ (.int .i64 (N : Int))) := by
  have hat0 := hat.same (w' := W0) (Y := X) (fun _ h => h) fun j _ => hW j
  have hX0 : ∀ j, X j → j < W0.heap.size := fun j hj => by rw [hWs, hsz]; exact hX j hj
  have hp1 := hat0.put (Y := X) (w1 := W0) (p := ({ f with b := f.b.take N }, .slice ba N bc)) (j := 1) (x := .slice ba N bc) hlt (fun _ h => h) hX0 (fun _ _ _ => rfl) (by omega) (by rw [hfe]; simp [flV])
    (by
      have := hat0.each fw[k] (List.getElem_mem hlt)
      rw [hfe] at this
      exact ownsRow_cut this hNl)
    (fun j hj => .inl (by rw [hfe]; rw [ownBlock_len (m := f.b.length) (c' := bc)] at hj; exact hj))
  rw [show fw.length = (fw.set k (({ f with b := f.b.take N } : Fl), Value.slice ba N bc)).length from by simp] at hp1
  have hp2 := hp1.put (Y := X) (w1 := W0.setCell ⟨ga, k * 3 + 1, none⟩ (.slice ba N bc)) (i := k) (p := ({ f with b := f.b.take N, safe := N }, .slice ba N bc)) (j := 2) (x := .int .i64 (N : Int)) (by simpa using hlt) (fun _ h => h) (fun j hj => by simpa using hX0 j hj) (fun _ _ _ => rfl) (by omega)
    (by simp [flV]) (by
      have := hp1.each ({ f with b := f.b.take N }, .slice ba N bc) (by
        rw [List.mem_iff_getElem]
        exact ⟨k, by simpa using hlt, by simp⟩)
      exact this)
    (fun j hj => .inl (by simpa using hj))
  rw [List.set_set] at hp2
  simp only [List.length_set, List.set_set] at hp2
  have hoW : Only X w W0 := ⟨hWw.1.trans ho.os, hWw.2.1.trans ho.tape, hWw.2.2.trans ho.output, by rw [hWs]; exact ho.size, fun j hj hne => (hW j).trans (ho.block j hj hne)⟩
  refine ⟨by omega, (hoW.set (.inl hXa) _).set (.inl hXa) _, by simp [hWs, hsz], ?_, .slice (some ⟨ga, 0, none⟩) fw.length lc, fw.set k ({ f with b := f.b.take N, safe := N }, .slice ba N bc), by simpa using hfw, ?_⟩
  · have hl : k < (D.crashFs d.fs ks).length := by rw [crashFs_length]; exact hk
    rw [D.used_take d.fs k hk, D.used_take (D.crashFs d.fs ks) k hl, crashFs_get d.fs ks k hk hl, hg, ← hf, ← hN]
    simp only [List.length_take]
    omega
  · rw [midC_next d.fs ks k hk, ← hf, ← hN]
    exact hp2

set_option maxRecDepth 20000 in
set_option maxHeartbeats 3200000 in
theorem RefCrash_any (d : Dk) (X : Nat → Prop) (gd : Nat) (ks : List Int) (F : Nat → Prop) (vk : Value) (w : World) (hd : DskIn w X gd d) (_hf : Hid (Fine d)) (hsf : Hid (∀ f ∈ d.fs, f.safe ≤ f.b.length)) (hu : Hid (D.used d.fs ≤ 1099511627776))
    (hv : RepI w F ks vk) (hF : ∀ k, F k → k < w.heap.size ∧ ¬ X k) :
    Calls Tryz.prog 34 #[.pointer (some ⟨gd, 0, none⟩), vk] w fun e w' => e = .returned (.int .i64 ((D.crash d ks).1 : Int)) ∧ Only X w w' ∧ Dsk w' X gd (D.crash d ks).2 ∧ w'.heap.size = w.heap.size := by
  obtain ⟨na, nc, rfl, hnl⟩ := hv.slice
  have HX := Lib.hid hd.2
  have HV := Lib.hid hv
  have HF := Lib.hid hF
  obtain ⟨vl, fv, hat⟩ := hd.1
  obtain ⟨cc, ⟨-, -, c2, -⟩, ⟨-, -, f2, -⟩, hz, hbox, -⟩ := hat.cells
  have HBX := Lib.hid hbox
  have HAT := Lib.hid hat
  clear hd hv hF hbox hat
  go_enter Tryz.func34, Tryz.ntmps34
  go_wp2_with fail
  have H0 : Hid (CraAt w X gd 0 fv.length 0 d ks 0 0 (w.setCell ⟨gd, 2, none⟩ (.bool false))) := Lib.hid ⟨Nat.zero_le _, (Only.refl _ _).set (.inl HAT.out.own) _, by simp, by simp, vl, fv, rfl, by
    have := HAT.out.turned (w' := w.setCell ⟨gd, 2, none⟩ (.bool false)) (e := { d with fs := midC d.fs ks 0, ends := false }) (by simp [midC]) ⟨cc, by rw [heap_setCell_same _ _ _ _ _ _ HBX.out]; simp, fun h => by cases h⟩ fun k hk => Below.heap_setCell _ _ _ _ (by simpa using hk)
    exact this⟩
  go_loopw [5, 6, 7] (fun g i _ wr => ∃ (k : Nat) (gone : Int), i = .int .i64 (k : Int) ∧ g = .int .i64 gone ∧ CraAt w X gd 0 fv.length 0 d ks k gone wr) (fun _ i _ _ => fv.length - (intOf i).toNat)
  case atStart => exact ⟨0, 0, rfl, rfl, H0.out⟩
  case round =>
    obtain ⟨k, gone, rfl, rfl, hat⟩ := hrel
    obtain ⟨hk, ho, hsz, hg, vl2, fw, hfw, hat⟩ := hat
    have hlen := hat.len.2
    simp only [midC_length d.fs ks k hk] at hlen
    obtain ⟨cc2, ⟨-, k1, -, -⟩, -, kz, -, -⟩ := hat.cells
    obtain ⟨la, lc, rfl⟩ := owned_slice hat.row
    have HO := Lib.hid ho
    have HSZ := Lib.hid hsz
    have HG := Lib.hid hg
    have HATW := Lib.hid hat
    have HLEN := Lib.hid hlen
    have hfl := hat.len.1
    clear ho hsz hg hat
    by_cases hlt : k < fw.length
    · have hkk : (k : Int) < (fw.length : Int) := by omega
      have hkd : k < d.fs.length := by have := HLEN.out; omega
      obtain ⟨ga, c, hv, hXa, hgag, hgz, hnc, hcm, -, e1, e2, hfz⟩ := HATW.out.file k hlt
      cases hv
      obtain ⟨ba, bc, hb, hbl⟩ := HATW.out.bytes k hlt
      obtain ⟨f, hf0⟩ : ∃ f, f = d.fs[k] := ⟨_, rfl⟩
      have hgt : fw[k].1 = f := by
        have h1 := HATW.out.get k hlt (by show k < (midC d.fs ks k).length; rw [midC_length _ _ _ hk]; exact hkd)
        have h2 := midC_at d.fs ks k hkd
        rw [List.getElem?_eq_getElem (by rw [midC_length _ _ _ hk]; exact hkd)] at h2
        rw [h1, hf0]
        exact Option.some.inj h2
      have hfw2 : fw[k] = (f, .slice ba f.b.length bc) := by rw [← hgt, ← hb]
      rw [hgt] at hb hbl e2
      rw [hb] at e1
      have hsafe : f.safe ≤ f.b.length := hsf.out f (by rw [hf0]; exact List.getElem_mem hkd)
      have hused : f.b.length ≤ 1099511627776 := by
        have a := D.used_take d.fs k hkd
        have b := D.used_le d.fs (k + 1)
        have := hu.out
        rw [hf0]; omega
      have hs0 : (f.safe : Int) ≤ (f.b.length : Int) := by omega
      have hl0 : (f.b.length : Int) ≤ 1099511627776 := by omega
      have HF0 := Lib.hid hf0
      have HFW := Lib.hid hfw2
      have f1 := hfz (k * 3 + 1)
      have f2' := hfz (k * 3 + 2)
      obtain ⟨N, hNe⟩ : ∃ N, N = D.stays f ks[k]? := ⟨_, rfl⟩
      have hNl : N ≤ f.b.length := by rw [hNe]; exact stays_leR hsafe _
      have HNN := Lib.hid hNe
      have hgb : 0 ≤ gone ∧ gone ≤ 1099511627776 ∧ gone + (f.b.length : Int) ≤ 1099511627776 := cra_bound hsf.out hu.out hkd hf0 HG.out
      obtain ⟨hg1, hg2, hg3⟩ := hgb
      have hgag' : gd ≠ ga := fun e => hgag e.symm
      have hcase : (ba = none ∧ f.b.length = 0 ∧ bc = 0) ∨ ∃ g, ba = some ⟨g, 0, none⟩ ∧ f.b.length ≤ bc := by
        have := (HATW.out.each (fw[k]) (List.getElem_mem _)).2
        rw [hfw2] at this
        rcases this with ⟨h, h0⟩ | ⟨g, cap, cur, h, _, _, h3, _⟩
        · simp only [Value.slice.injEq] at h; exact .inl ⟨h.1, h0, h.2.2⟩
        · simp only [Value.slice.injEq] at h
          have h3' : f.b.length ≤ cap := h3
          exact .inr ⟨g, h.1, by omega⟩
      clear hb hgt hfw2 hf0 hbl hfz hNe
      by_cases hkl : k < ks.length
      · have hkl2 : (k : Int) < (ks.length : Int) := by omega
        have hvr : RepI wr (fun k => F k) ks (.slice na ks.length nc) := HV.out.same (fun _ h => h) fun j hj => HO.out.block j (HF.out j hj).1 (HF.out j hj).2
        obtain ⟨b, off, rfl, hFb, hc, hz1, hz2⟩ := hvr.elem k hkl
        have hbz : b < wr.heap.size := by rw [HSZ.out]; exact (HF.out b hFb).1
        obtain ⟨z, hze⟩ : ∃ z, z = ks[k] := ⟨_, rfl⟩
        rw [← hze] at hc hz1 hz2
        have HZE := Lib.hid hze
        clear hze hvr
        by_cases hpos : 0 < z
        · by_cases hmin : (f.b.length : Int) - (f.safe : Int) < z
          · have hN : (N : Int) = (f.safe : Int) + ((f.b.length : Int) - (f.safe : Int)) := by
              have := HNN.out
              rw [List.getElem?_eq_getElem hkl, ← HZE.out] at this
              unfold D.stays at this
              simp only [if_pos hpos] at this
              omega
            go_wp2_with fail
            go_quiet (fail)
            go_wp2_with fail
            first
              | rw [show (f.safe : Int) + ((f.b.length : Int) - (f.safe : Int)) = (N : Int) from by omega]
              | rw [show (f.safe : Int) + min z ((f.b.length : Int) - (f.safe : Int)) = (N : Int) from by omega]
            have HNE := Lib.hid hN
            clear hN
            generalize hW0 : World.drewN wr _ = W0
            have hpu := cra_put (W0 := W0) (N := N) (gone := gone) (by omega) HO.out HSZ.out HG.out hfw HATW.out HX.out hlt HFW.out HF0.out HNN.out hNl hXa (fun j => by rw [← hW0]; rfl) (by rw [← hW0]; rfl) (by rw [← hW0]; exact ⟨rfl, rfl, rfl⟩)
            have HPU := Lib.hid hpu
            have k1' : W0.cell? ⟨gd, 1, none⟩ = some (.slice (some ⟨ga, 0, none⟩) fw.length lc) := by rw [← hW0]; exact k1
            have e1' : W0.cell? ⟨ga, k * 3 + 1, none⟩ = some (.slice ba f.b.length bc) := by rw [← hW0]; exact e1
            have e2' : W0.cell? ⟨ga, k * 3 + 2, none⟩ = some (.int .i64 (f.safe : Int)) := by rw [← hW0]; exact e2
            have f1' : W0.frozen? ⟨ga, k * 3 + 1, none⟩ = false := by rw [← hW0]; exact f1
            have f3' : W0.frozen? ⟨ga, k * 3 + 2, none⟩ = false := by rw [← hW0]; exact f2'
            have kz' : gd < W0.heap.size := by rw [← hW0]; exact kz
            have hgz' : ga < W0.heap.size := by rw [← hW0]; exact hgz
            have HW0 := Lib.hid hW0
            clear hW0 hpu
            rcases hcase with ⟨rfl, h0, rfl⟩ | ⟨g, rfl, hgl⟩
            · obtain rfl : N = 0 := by omega
              go_wp2_with fail
              go_still_tail 17, (by kernel_rfl)
              go_wp2_with fail
              go_roundw
              case rel =>
                have hp := HPU.out.drew
                rw [show gone + (f.b.length : Int) - ((0 : Nat) : Int) = gone from by omega] at hp
                exact ⟨k + 1, _, by go_num, rfl, by simpa using hp⟩
              case measure => simp [intOf]; omega
            · have hNc : (N : Int) ≤ (bc : Int) := by omega
              go_wp2_with fail
              go_still_tail 17, (by kernel_rfl)
              go_wp2_with fail
              go_roundw
              case rel => exact ⟨k + 1, _, by go_num, rfl, HPU.out.drew⟩
              case measure => simp [intOf]; omega
          · have hN : (N : Int) = (f.safe : Int) + z := by
              have := HNN.out
              rw [List.getElem?_eq_getElem hkl, ← HZE.out] at this
              unfold D.stays at this
              simp only [if_pos hpos] at this
              omega
            go_wp2_with fail
            go_quiet (fail)
            go_wp2_with fail
            first
              | rw [show (f.safe : Int) + z = (N : Int) from by omega]
              | rw [show (f.safe : Int) + min z ((f.b.length : Int) - (f.safe : Int)) = (N : Int) from by omega]
            have HNE := Lib.hid hN
            clear hN
            generalize hW0 : World.drewN wr _ = W0
            have hpu := cra_put (W0 := W0) (N := N) (gone := gone) (by omega) HO.out HSZ.out HG.out hfw HATW.out HX.out hlt HFW.out HF0.out HNN.out hNl hXa (fun j => by rw [← hW0]; rfl) (by rw [← hW0]; rfl) (by rw [← hW0]; exact ⟨rfl, rfl, rfl⟩)
            have HPU := Lib.hid hpu
            have k1' : W0.cell? ⟨gd, 1, none⟩ = some (.slice (some ⟨ga, 0, none⟩) fw.length lc) := by rw [← hW0]; exact k1
            have e1' : W0.cell? ⟨ga, k * 3 + 1, none⟩ = some (.slice ba f.b.length bc) := by rw [← hW0]; exact e1
            have e2' : W0.cell? ⟨ga, k * 3 + 2, none⟩ = some (.int .i64 (f.safe : Int)) := by rw [← hW0]; exact e2
            have f1' : W0.frozen? ⟨ga, k * 3 + 1, none⟩ = false := by rw [← hW0]; exact f1
            have f3' : W0.frozen? ⟨ga, k * 3 + 2, none⟩ = false := by rw [← hW0]; exact f2'
            have kz' : gd < W0.heap.size := by rw [← hW0]; exact kz
            have hgz' : ga < W0.heap.size := by rw [← hW0]; exact hgz
            have HW0 := Lib.hid hW0
            clear hW0 hpu
            rcases hcase with ⟨rfl, h0, rfl⟩ | ⟨g, rfl, hgl⟩
            · have := HNE.out
              omega
            · have hNc : (N : Int) ≤ (bc : Int) := by omega
              go_wp2_with fail
              go_still_tail 17, (by kernel_rfl)
              go_wp2_with fail
              go_roundw
              case rel => exact ⟨k + 1, _, by go_num, rfl, HPU.out.drew⟩
              case measure => simp [intOf]; omega
        · have hN : N = f.safe := by
            have := HNN.out
            rw [List.getElem?_eq_getElem hkl, ← HZE.out] at this
            unfold D.stays at this
            simp only [if_neg hpos] at this
            omega
          have e2' : wr.cell? ⟨ga, k * 3 + 2, none⟩ = some (.int .i64 (N : Int)) := by rw [hN]; exact e2
          have HPU := Lib.hid (cra_put (W0 := wr) (N := N) (gone := gone) (by omega) HO.out HSZ.out HG.out hfw HATW.out HX.out hlt HFW.out HF0.out HNN.out hNl hXa (fun _ => rfl) rfl ⟨rfl, rfl, rfl⟩)
          have HNE := Lib.hid hN
          clear hN e2
          rcases hcase with ⟨rfl, h0, rfl⟩ | ⟨g, rfl, hgl⟩
          · obtain rfl : N = 0 := by omega
            go_wp2_with fail
            go_still_tail 17, (by kernel_rfl)
            go_wp2_with fail
            go_roundw
            case rel =>
              have hp := HPU.out.drew
              rw [show gone + (f.b.length : Int) - ((0 : Nat) : Int) = gone from by omega] at hp
              exact ⟨k + 1, _, by go_num, rfl, by simpa using hp⟩
            case measure => simp [intOf]; omega
          · have hNc : (N : Int) ≤ (bc : Int) := by omega
            go_wp2_with fail
            go_still_tail 17, (by kernel_rfl)
            go_wp2_with fail
            go_roundw
            case rel => exact ⟨k + 1, _, by go_num, rfl, HPU.out.drew⟩
            case measure => simp [intOf]; omega
      · have hN : N = f.safe := by
          have := HNN.out
          rw [List.getElem?_eq_none (by omega)] at this
          unfold D.stays at this
          exact this
        have e2' : wr.cell? ⟨ga, k * 3 + 2, none⟩ = some (.int .i64 (N : Int)) := by rw [hN]; exact e2
        have HPU := Lib.hid (cra_put (W0 := wr) (N := N) (gone := gone) (by omega) HO.out HSZ.out HG.out hfw HATW.out HX.out hlt HFW.out HF0.out HNN.out hNl hXa (fun _ => rfl) rfl ⟨rfl, rfl, rfl⟩)
        have HNE := Lib.hid hN
        clear hN e2
        rcases hcase with ⟨rfl, h0, rfl⟩ | ⟨g, rfl, hgl⟩
        · obtain rfl : N = 0 := by omega
          go_wp2_with fail
          go_still_tail 17, (by kernel_rfl)
          go_wp2_with fail
          go_roundw
          case rel =>
            have hp := HPU.out.drew
            rw [show gone + (f.b.length : Int) - ((0 : Nat) : Int) = gone from by omega] at hp
            exact ⟨k + 1, _, by go_num, rfl, by simpa using hp⟩
          case measure => simp [intOf]; omega
        · have hNc : (N : Int) ≤ (bc : Int) := by omega
          go_wp2_with fail
          go_still_tail 17, (by kernel_rfl)
          go_wp2_with fail
          go_roundw
          case rel => exact ⟨k + 1, _, by go_num, rfl, HPU.out.drew⟩
          case measure => simp [intOf]; omega
    · obtain rfl : k = fw.length := by have := HLEN.out; omega
      have hmid : midC d.fs ks d.fs.length = D.crashFs d.fs ks := by
        unfold midC
        rw [List.take_of_length_le (by rw [crashFs_length]; exact Nat.le_refl _), List.drop_length, List.append_nil]
      have hle := used_crash d.fs ks hsf.out d.fs.length (Nat.le_refl _)
      have hg := HG.out
      have hat := HATW.out
      rw [← HLEN.out] at hg hat
      rw [hmid] at hat
      rw [List.take_of_length_le (l := D.crashFs d.fs ks) (by rw [crashFs_length]; exact Nat.le_refl _), List.take_length] at hg hle
      have hc : gone = ((D.crash d ks).1 : Int) := by simp only [D.crash]; omega
      have HC := Lib.hid hc
      have HAT2 := Lib.hid hat
      clear hmid hle hg hat hc
      go_wp2_with fail
      go_ret
      refine ⟨by rw [HC.out]; rfl, ⟨HO.out.os, HO.out.tape, HO.out.output, HO.out.size, HO.out.block⟩, ⟨_, fw, HAT2.out.same (fun _ h => h) fun _ _ => rfl⟩, HSZ.out⟩
end Go.Proofs.YtbcpcopapbgcdaaGreatDoor.M

/- The document's disk: Cut. -/
import Derived.Test.YtgiipkmkmomofaaDiskRef8
namespace Go.Proofs.Ytgiipkmkmomofaa.M
open Go.RowKit
open D (Fl Dk)

theorem ownsRow_cut {w : World} {a : Option Addr} {c n : Nat} {L : List UInt8} (h : w.ownsRow 0 5 1 (.slice a L.length c) L.length (L.map byteV)) (hn : n ≤ L.length) :
    w.ownsRow 0 5 1 (.slice a n c) (L.take n).length ((L.take n).map byteV) := by
  have hl : (L.take n).length = n := by simp; omega
  rw [hl]
  refine ⟨by simp; omega, ?_⟩
  rcases h.2 with ⟨h1, h2⟩ | ⟨g, cap, cur, hv, hg, hcur, h1, h2, h3, h4⟩
  · simp only [Value.slice.injEq] at h1
    obtain ⟨h5, h6, h7⟩ := h1
    refine .inl ⟨?_, by omega⟩
    rw [h5, h7, show n = 0 by omega]
  · simp only [Value.slice.injEq] at hv
    obtain ⟨h5, -, h7⟩ := hv
    refine .inr ⟨g, cap, cur, by rw [h5, h7], hg, hcur, by omega, h2, h3, ?_⟩
    rw [List.map_take, ← h4, List.take_take, Nat.mul_one, Nat.min_eq_left (by omega)]

theorem cut_32 {d : Dk} {s : ByteArray} {n : Int} (h : d.stopped = true) : D.cut d s n = (32, d) := by unfold D.cut; rw [if_pos h]

theorem cut_30 {d : Dk} {s : ByteArray} {n : Int} (h : d.stopped = false) (hn : D.isThere d.fs s = false) : D.cut d s n = (30, d.tick) := by
  unfold D.cut
  rw [if_neg (by rw [h]; simp)]
  simp only [tick_fs]
  unfold D.isThere at hn
  rw [List.getElem?_eq_none (by simpa using hn)]

theorem cut_2 {d : Dk} {s : ByteArray} {n : Int} (h : d.stopped = false) (hi : D.find d.fs s < d.fs.length) (hn : n < 0 ∨ (d.fs[D.find d.fs s].b.length : Int) < n) : D.cut d s n = (2, d.tick) := by
  unfold D.cut
  rw [if_neg (by rw [h]; simp)]
  simp only [tick_fs]
  rw [List.getElem?_eq_getElem hi]
  simp only
  rw [if_pos hn]

theorem cut_0 {d : Dk} {s : ByteArray} {n : Int} (h : d.stopped = false) (hi : D.find d.fs s < d.fs.length) (hn : ¬ (n < 0 ∨ (d.fs[D.find d.fs s].b.length : Int) < n)) :
    D.cut d s n = (0, { d.tick with fs := d.fs.set (D.find d.fs s) { d.fs[D.find d.fs s] with b := d.fs[D.find d.fs s].b.take n.toNat, safe := min d.fs[D.find d.fs s].safe n.toNat } }) := by
  unfold D.cut
  rw [if_neg (by rw [h]; simp)]
  simp only [tick_fs]
  rw [List.getElem?_eq_getElem hi]
  simp only
  rw [if_neg hn, modify_set _ _ _ hi]

set_option maxRecDepth 20000 in
set_option maxHeartbeats 3200000 in
theorem RefCut_any (d : Dk) (X : Nat → Prop) (gd : Nat) (s : ByteArray) (n : Int) (w : World) (hd : DskIn w X gd d) (hf : Hid (Fine d)) (hn : Hid (-9223372036854775808 ≤ n ∧ n ≤ 9223372036854775807)) :
    Calls Try.prog 33 #[.pointer (some ⟨gd, 0, none⟩), .string s, .int .i64 n] w (CallPost w X gd (D.cut d s n)) := by
  have HX := Lib.hid hd.2
  have HD := Lib.hid hd.1
  clear hd
  cases hst : d.stopped with
  | true =>
    have HR : Hid (D.cut d s n = (32, d)) := Lib.hid (cut_32 hst)
    have HT := Lib.hid (stopped_tick hst)
    have HST := Lib.hid hst
    clear hst
    go_enter Try.func33, Try.ntmps33
    go_wp2_with fail
    refine (RefStopped_any d X gd _ HD.out (Lib.hid hf.out.2.1)).mono ?_
    rintro e w1 ⟨rfl, ho, hd1, hs1⟩
    rw [HST.out]
    rw [HT.out] at hd1
    have HO := Lib.hid ho
    have HD1 := Lib.hid hd1
    clear ho hd1 hs1
    go_wp2_with fail
    go_ret
    exact ⟨by rw [HR.out]; rfl, HO.out, by rw [HR.out]; exact HD1.out.up⟩
  | false =>
    have HST := Lib.hid hst
    clear hst
    go_enter Try.func33, Try.ntmps33
    go_wp2_with fail
    refine (RefStopped_any d X gd _ HD.out (Lib.hid hf.out.2.1)).mono ?_
    rintro e w1 ⟨rfl, ho, hd1, hs1⟩
    rw [HST.out]
    have HO := Lib.hid ho
    have HD1 := Lib.hid hd1
    have HS1 := Lib.hid hs1
    clear ho hd1 hs1
    go_wp2_with fail
    refine (RefFind_any d.tick X gd s _ HD1.out).mono ?_
    rintro e w' ⟨rfl, rfl⟩
    rw [tick_fs]
    cases hta : D.isThere d.fs s with
    | false =>
      have HE : Hid (D.cut d s n = (30, d.tick)) := Lib.hid (cut_30 HST.out hta)
      rw [findR_neg hta]
      clear hta
      go_wp2_with fail
      go_ret
      exact ⟨by rw [HE.out]; rfl, HO.out, by rw [HE.out]; exact HD1.out.up⟩
    | true =>
      obtain ⟨q1, q2⟩ := findR_pos hta
      rw [q1]
      obtain ⟨i, hi⟩ : ∃ i, i = D.find d.fs s := ⟨_, rfl⟩
      have HQ2 := Lib.hid q2
      rw [← hi] at q2 ⊢
      have HI := Lib.hid hi
      obtain ⟨vl, fv, hat⟩ := HD1.out
      have hlen := hat.len.2
      rw [tick_fs] at hlen
      have hil : i < fv.length := by omega
      obtain ⟨cc, ⟨-, c1, -, -⟩, -, hz, -, -⟩ := hat.cells
      obtain ⟨ga, c, rfl, hXa, -, hgz, hnc, hcm, -, e1, e2, hfz⟩ := hat.file i hil
      obtain ⟨ba, bc, hb, hbl⟩ := hat.bytes i hil
      have hgt := hat.get i hil (by rw [tick_fs]; omega)
      simp only [tick_fs] at hgt
      obtain ⟨f, hf0⟩ : ∃ f, fv[i] = (f, .slice ba f.b.length bc) := ⟨fv[i].1, by rw [← hb]⟩
      rw [hf0] at e1 e2 hgt hbl
      simp only at e1 e2 hgt hbl
      have f1 := hfz (i * 3 + 1)
      have f2 := hfz (i * 3 + 2)
      have hil2 : (i : Int) < (fv.length : Int) := by omega
      have hfl2 : (f.b.length : Int) ≤ 9223372036854775807 := by omega
      have HGT : Hid (f = d.fs[D.find d.fs s]'HQ2.out) := Lib.hid (by rw [hgt]; simp only [hi])
      have HAT := Lib.hid hat
      have HF0 := Lib.hid hf0
      have HIL := Lib.hid hil
      have t1 : decide ((i : Int) < 0) = false := by simp
      clear hta q1 q2 hi hat hlen hb hgt hf0 hfz hbl
      by_cases hneg : n < 0
      · have HE : Hid (D.cut d s n = (2, d.tick)) := Lib.hid (cut_2 HST.out HQ2.out (.inl hneg))
        go_wp2_with fail
        go_ret
        exact ⟨by rw [HE.out]; rfl, HO.out, by rw [HE.out]; exact HD1.out.up⟩
      · by_cases hbig : (f.b.length : Int) < n
        · have HE : Hid (D.cut d s n = (2, d.tick)) := Lib.hid (cut_2 HST.out HQ2.out (.inr (by rw [← HGT.out]; exact hbig)))
          have t2 : decide (n < 0) = false := by simp; omega
          clear hneg
          go_wp2_with fail
          go_ret
          exact ⟨by rw [HE.out]; rfl, HO.out, by rw [HE.out]; exact HD1.out.up⟩
        · obtain ⟨N, rfl⟩ : ∃ N : Nat, n = (N : Int) := ⟨n.toNat, by omega⟩
          have HE : Hid (D.cut d s (N : Int) = _) := Lib.hid (cut_0 HST.out HQ2.out (by rw [← HGT.out]; omega))
          have t2 : decide ((N : Int) < 0) = false := by simp
          have t3 : decide ((f.b.length : Int) < (N : Int)) = false := by simp; omega
          have hNl : (N : Int) ≤ (f.b.length : Int) := by omega
          have hNl2 : N ≤ f.b.length := by omega
          have hcase : (ba = none ∧ f.b.length = 0 ∧ bc = 0) ∨ ∃ g, ba = some ⟨g, 0, none⟩ ∧ f.b.length ≤ bc := by
            have := (HAT.out.each (fv[i]'hil) (List.getElem_mem _)).2
            rw [HF0.out] at this
            rcases this with ⟨h, h0⟩ | ⟨g, cap, cur, h, _, _, h3, _⟩
            · simp only [Value.slice.injEq] at h; exact .inl ⟨h.1, h0, h.2.2⟩
            · simp only [Value.slice.injEq] at h
              have h3' : f.b.length ≤ cap := h3
              exact .inr ⟨g, h.1, by omega⟩
          have HFI : Hid ((d.fs[i]'(by have := HQ2.out; rw [← HI.out] at this; exact this)) = f) := Lib.hid (by rw [HGT.out]; simp only [HI.out])
          have HFX : Hid (∀ k, X k → k < w1.heap.size) := Lib.hid fun k hk => by rw [HS1.out]; exact HX.out k hk
          have hp1 := HAT.out.put (Y := X) (w1 := w1) (p := ({ f with b := f.b.take N }, .slice ba N bc)) (j := 1) (x := .slice ba N bc) hil (fun _ h => h) HFX.out (fun _ _ _ => rfl) (by omega) (by rw [HF0.out]; simp [flV])
            (by
              have := HAT.out.each (fv[i]'hil) (List.getElem_mem _)
              rw [HF0.out] at this
              exact ownsRow_cut this hNl2)
            (fun k hk => .inl (by rw [HF0.out]; rw [ownBlock_len (m := f.b.length) (c' := bc)] at hk; exact hk))
          rw [show fv.length = (fv.set i (({ f with b := f.b.take N } : Fl), Value.slice ba N bc)).length from by simp] at hp1
          have HP1 := Lib.hid hp1
          have HOX : Hid (X ga) := Lib.hid hXa
          clear hneg hbig hp1
          rcases hcase with ⟨rfl, h0, rfl⟩ | ⟨g, rfl, hgl⟩
          · obtain rfl : N = 0 := by omega
            have HE0 : Hid (D.cut d s (0 : Int) = _) := Lib.hid HE.out
            go_wp2_with fail
            go_still_tail 17, (by kernel_rfl)
            go_wp2_with fail
            obtain ⟨W, hW⟩ : ∃ W : World, W = (w1.setCell ⟨ga, i * 3 + 1, none⟩ (.slice none 0 0)).drew := ⟨_, rfl⟩
            rw [← hW]
            have hpW : DkAt W X gd _ _ _ := hW ▸ HP1.out.same (Y := X) (w' := (w1.setCell ⟨ga, i * 3 + 1, none⟩ (.slice none 0 0)).drew) (fun _ h => h) fun _ _ => rfl
            have hzW : W.heap.size = w1.heap.size := by rw [hW]; simp
            have hoW : Only X w1 W := by rw [hW]; exact ⟨rfl, rfl, rfl, by simp, ((Only.refl X w1).set (.inl HOX.out) _).block⟩
            have hilW : i < (fv.set i (({ f with b := f.b.take 0 } : Fl), Value.slice none 0 0)).length := by simpa using hil
            obtain ⟨-, ⟨-, k1, -, -⟩, -, kz, -, -⟩ := hpW.cells
            obtain ⟨ga', c', hv', -, -, hgz', -, -, -, -, e3, hfz'⟩ := hpW.file i hilW
            simp only [Value.slice.injEq, Option.some.injEq, Addr.mk.injEq, and_true] at hv'
            obtain ⟨rfl, -, rfl⟩ := hv'
            have f3 := hfz' (i * 3 + 2)
            simp only [List.getElem_set_self] at e3
            simp only [List.length_set] at k1
            have hp2 := hpW.put (Y := X) (w1 := W) (i := i) (p := ({ f with b := f.b.take 0, safe := min f.safe 0 }, .slice none 0 0)) (j := 2) (x := .int .i64 ((min f.safe 0 : Nat) : Int)) hilW (fun _ h => h) (fun k hk => by rw [hzW]; exact HFX.out k hk) (fun _ _ _ => rfl) (by omega)
              (by simp [flV]) (by
                have := hpW.each ({ f with b := f.b.take 0 }, .slice none 0 0) (by
                  rw [List.mem_iff_getElem]
                  exact ⟨i, hilW, by simp⟩)
                exact this)
              (fun k hk => .inl (by simpa using hk))
            rw [List.set_set] at hp2
            simp only [List.length_set] at hp2
            have HP2 := Lib.hid hp2
            have HOW := Lib.hid hoW
            clear hW hpW hp2 hoW hfz' hilW
            have HMIN : Hid ((if ((0 : Nat) : Int) < (f.safe : Int) then ((0 : Nat) : Int) else (f.safe : Int)) = ((min f.safe 0 : Nat) : Int)) := Lib.hid (by split <;> omega)
            by_cases hlt : ((0 : Nat) : Int) < (f.safe : Int)
            · go_still_tail 17, (by kernel_rfl)
              go_wp2_with fail
              go_ret
              have hx : ((min f.safe 0 : Nat) : Int) = ((0 : Nat) : Int) := by omega
              have hp := HP2.out
              rw [hx] at hp
              simp only [tick_fs, List.set_set] at hp
              refine ⟨by rw [HE0.out]; rfl, HO.out.trans (Only.mono (X := X) ⟨HOW.out.os, HOW.out.tape, HOW.out.output, by have := HOW.out.size; simp; omega, (HOW.out.set (.inl HOX.out) _).block⟩ fun k hk => .inl hk), ?_⟩
              rw [HE0.out]
              simp only [← HI.out, HFI.out, Int.toNat_natCast]
              exact Dsk.up ⟨_, _, hp.same (fun _ h => h) fun _ _ => rfl⟩
            · go_still_tail 17, (by kernel_rfl)
              go_wp2_with fail
              go_ret
              have hx : ((min f.safe 0 : Nat) : Int) = (f.safe : Int) := by omega
              have hp := HP2.out
              rw [hx] at hp
              simp only [tick_fs, List.set_set] at hp
              refine ⟨by rw [HE0.out]; rfl, HO.out.trans (Only.mono (X := X) ⟨HOW.out.os, HOW.out.tape, HOW.out.output, by have := HOW.out.size; simp; omega, (HOW.out.set (.inl HOX.out) _).block⟩ fun k hk => .inl hk), ?_⟩
              rw [HE0.out]
              simp only [← HI.out, HFI.out, Int.toNat_natCast]
              exact Dsk.up ⟨_, _, hp.same (fun _ h => h) fun _ _ => rfl⟩
          · have hNc : (N : Int) ≤ (bc : Int) := by omega
            go_wp2_with fail
            go_still_tail 17, (by kernel_rfl)
            go_wp2_with fail
            obtain ⟨W, hW⟩ : ∃ W : World, W = (w1.setCell ⟨ga, i * 3 + 1, none⟩ (.slice (some ⟨g, 0, none⟩) N bc)).drew := ⟨_, rfl⟩
            rw [← hW]
            have hpW : DkAt W X gd _ _ _ := hW ▸ HP1.out.same (Y := X) (w' := (w1.setCell ⟨ga, i * 3 + 1, none⟩ (.slice (some ⟨g, 0, none⟩) N bc)).drew) (fun _ h => h) fun _ _ => rfl
            have hzW : W.heap.size = w1.heap.size := by rw [hW]; simp
            have hoW : Only X w1 W := by rw [hW]; exact ⟨rfl, rfl, rfl, by simp, ((Only.refl X w1).set (.inl HOX.out) _).block⟩
            have hilW : i < (fv.set i (({ f with b := f.b.take N } : Fl), Value.slice (some ⟨g, 0, none⟩) N bc)).length := by simpa using hil
            obtain ⟨-, ⟨-, k1, -, -⟩, -, kz, -, -⟩ := hpW.cells
            obtain ⟨ga', c', hv', -, -, hgz', -, -, -, -, e3, hfz'⟩ := hpW.file i hilW
            simp only [Value.slice.injEq, Option.some.injEq, Addr.mk.injEq, and_true] at hv'
            obtain ⟨rfl, -, rfl⟩ := hv'
            have f3 := hfz' (i * 3 + 2)
            simp only [List.getElem_set_self] at e3
            simp only [List.length_set] at k1
            have hp2 := hpW.put (Y := X) (w1 := W) (i := i) (p := ({ f with b := f.b.take N, safe := min f.safe N }, .slice (some ⟨g, 0, none⟩) N bc)) (j := 2) (x := .int .i64 ((min f.safe N : Nat) : Int)) hilW (fun _ h => h) (fun k hk => by rw [hzW]; exact HFX.out k hk) (fun _ _ _ => rfl) (by omega)
              (by simp [flV]) (by
                have := hpW.each ({ f with b := f.b.take N }, .slice (some ⟨g, 0, none⟩) N bc) (by
                  rw [List.mem_iff_getElem]
                  exact ⟨i, hilW, by simp⟩)
                exact this)
              (fun k hk => .inl (by simpa using hk))
            rw [List.set_set] at hp2
            simp only [List.length_set] at hp2
            have HP2 := Lib.hid hp2
            have HOW := Lib.hid hoW
            clear hW hpW hp2 hoW hfz' hilW
            have HMIN : Hid ((if ((N : Nat) : Int) < (f.safe : Int) then ((N : Nat) : Int) else (f.safe : Int)) = ((min f.safe N : Nat) : Int)) := Lib.hid (by split <;> omega)
            by_cases hlt : ((N : Nat) : Int) < (f.safe : Int)
            · go_still_tail 17, (by kernel_rfl)
              go_wp2_with fail
              go_ret
              have hx : ((min f.safe N : Nat) : Int) = ((N : Nat) : Int) := by omega
              have hp := HP2.out
              rw [hx] at hp
              simp only [tick_fs, List.set_set] at hp
              refine ⟨by rw [HE.out]; rfl, HO.out.trans (Only.mono (X := X) ⟨HOW.out.os, HOW.out.tape, HOW.out.output, by have := HOW.out.size; simp; omega, (HOW.out.set (.inl HOX.out) _).block⟩ fun k hk => .inl hk), ?_⟩
              rw [HE.out]
              simp only [← HI.out, HFI.out, Int.toNat_natCast]
              exact Dsk.up ⟨_, _, hp.same (fun _ h => h) fun _ _ => rfl⟩
            · go_still_tail 17, (by kernel_rfl)
              go_wp2_with fail
              go_ret
              have hx : ((min f.safe N : Nat) : Int) = (f.safe : Int) := by omega
              have hp := HP2.out
              rw [hx] at hp
              simp only [tick_fs, List.set_set] at hp
              refine ⟨by rw [HE.out]; rfl, HO.out.trans (Only.mono (X := X) ⟨HOW.out.os, HOW.out.tape, HOW.out.output, by have := HOW.out.size; simp; omega, (HOW.out.set (.inl HOX.out) _).block⟩ fun k hk => .inl hk), ?_⟩
              rw [HE.out]
              simp only [← HI.out, HFI.out, Int.toNat_natCast]
              exact Dsk.up ⟨_, _, hp.same (fun _ h => h) fun _ _ => rfl⟩
end Go.Proofs.Ytgiipkmkmomofaa.M

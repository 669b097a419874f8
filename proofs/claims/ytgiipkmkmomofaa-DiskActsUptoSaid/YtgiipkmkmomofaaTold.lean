/- The law's helper told: all that both disks tell. -/
import Derived.Test.YtgiipkmkmomofaaDiskRun
import Derived.Deep.LoopGhost
import Derived.StillTailTactics
import Derived.Laws.BitsAllLaws
namespace Go.Proofs.Ytgiipkmkmomofaa.M
open Go.RowKit Go.Maps
open D (Fl Dk)

theorem u8_x (c k : UInt8) : bits .xor .u8 (c.toNat : Int) (k.toNat : Int) = ((c ^^^ k).toNat : Int) := by
  have h1 : c.toNat < 256 := c.toNat_lt
  have h2 : k.toNat < 256 := k.toNat_lt
  rw [u8_xor_nat _ _ h1 h2, UInt8.toNat_xor]

def nmNone : ByteArray := ⟨#[110, 111, 45, 115, 117, 99, 104, 45, 102, 105, 108, 101]⟩

/-- A file that isn't there has nothing. -/
theorem none_there {fs : List Fl} {s : ByteArray} (h : D.isThere fs s = false) : bytesOf fs s = [] ∧ safeOf fs s = 0 := by
  have h2 : fs.find? (fun f => decide (f.nm = s)) = none := by
    rw [List.find?_eq_none]
    intro f hf hn
    simp only [decide_eq_true_eq] at hn
    have := D.isThere_mem.2 ⟨f, hf, hn⟩
    rw [h] at this
    cases this
  unfold bytesOf safeOf
  rw [h2]
  exact ⟨rfl, rfl⟩

set_option maxRecDepth 40000 in
set_option maxHeartbeats 6400000 in
theorem Told_any (d : Dk) (X Y : Nat → Prop) (gd gr : Nat) (w : World) (hd : PDskIn w X gd d) (hq : DskIn w Y gr d) (hw : Well d) (hu : D.used d.fs ≤ 1099511627776) :
    Calls Try.prog 15 #[.pointer (some ⟨gd, 0, none⟩), .pointer (some ⟨gr, 0, none⟩)] w fun e w' => e = .returned (.bool true) ∧ Below w.heap.size w w' := by
  obtain ⟨⟨vl, fv, hat⟩, hY⟩ := hq
  obtain ⟨cc, ⟨-, c1, -, -⟩, -, hz, -, -⟩ := hat.cells
  obtain ⟨la, lc, rfl⟩ := owned_slice hat.row
  have hlen := hat.len.2
  have hfl : fv.length ≤ 4096 := by rw [← hlen]; exact hw.1.1.1
  have HLEN := Lib.hid hlen
  have HD := Lib.hid hd
  have HAT := Lib.hid hat
  have HY := Lib.hid hY
  have HW := Lib.hid hw
  have HU := Lib.hid hu
  have HC1 := Lib.hid c1
  have HZ := Lib.hid hz
  clear hd hat hY hw hu hlen c1
  go_enter Try.func15, Try.ntmps15
  go_wp2_with fail
  refine (Names_any d X gd w HD.out HW.out.1.2.1 (by rw [HLEN.out]; omega)).mono ?_
  rintro e w1 ⟨v, rfl, hb1, hrow1⟩
  rw [HLEN.out] at hrow1
  obtain ⟨na, nc, rfl⟩ := owned_slice hrow1
  have HROW := Lib.hid hrow1
  have HB1 := Lib.hid hb1
  have c1 : w1.cell? ⟨gr, 1, none⟩ = some (.slice la fv.length lc) := (World.cell?_of_block (a := ⟨gr, 1, none⟩) (hb1.block gr hz)).trans HC1.out
  have hz1 : gr < w1.heap.size := Nat.lt_of_lt_of_le hz hb1.size
  have hd1 : PDskIn w1 X gd d := HD.out.next hb1
  have hq1 : DkAt w1 Y gr d (.slice la fv.length lc) fv := HAT.out.same (fun _ h => h) fun k hk => hb1.block k (HY.out k hk)
  have HD1 := Lib.hid hd1
  have HQ1 := Lib.hid hq1
  clear hb1 hrow1 hd1 hq1 hz
  go_wp2_with fail
  refine (PFree_any d X gd w1 HD1.out.1).mono ?_
  rintro e w2 ⟨rfl, rfl⟩
  go_wp2_with fail
  refine (RefFree_any d Y gr w1 ⟨_, _, HQ1.out⟩ (Lib.hid ⟨HW.out.1.1.2.2.1, HW.out.1.1.2.2.2.1, HW.out.1.1.2.2.2.2⟩)).mono ?_
  rintro e w2 ⟨rfl, rfl⟩
  clear c1 hz1
  go_wp2_with fail
  go_loopg [6, 7, 8, 9] fv.length (fun g i _ _ _ wr => ∃ k : Nat, i = .int .i64 (k : Int) ∧ k + g = fv.length ∧ Below w1.heap.size w1 wr)
  case atStart => exact ⟨0, rfl, by omega, Below.refl _ _⟩
  case round =>
    obtain ⟨k, rfl, hkg, hbr⟩ := hrel
    obtain ⟨go, hgo⟩ : ∃ go : Nat, go = gk := ⟨_, rfl⟩
    subst hgo
    have HBR := Lib.hid hbr
    have HDR : Hid (PDskIn wr X gd d) := Lib.hid (HD1.out.next hbr)
    have hzr := hbr.size
    clear hbr
    by_cases hlt : k < fv.length
    · have hkk : (k : Int) < (fv.length : Int) := by omega
      obtain ⟨gn, hna, hgn1, hgn2, hcn⟩ := row_cell HROW.out k hlt
      subst hna
      have hlt2 : k < d.fs.length := by rw [HLEN.out]; exact hlt
      have hge := HQ1.out.get k hlt hlt2
      obtain ⟨f, hfe⟩ : ∃ f, f = fv[k].1 := ⟨_, rfl⟩
      rw [List.getElem?_map, List.getElem?_eq_getElem hlt2, ← hge, ← hfe] at hcn
      have hfm : f ∈ d.fs := by rw [hfe, hge]; exact List.getElem_mem _
      have hcn2 : wr.cell? ⟨gn, k, none⟩ = some (.string f.nm) := (World.cell?_of_block (a := ⟨gn, k, none⟩) (HBR.out.block gn hgn2)).trans hcn
      have hgq : gn < wr.heap.size := by omega
      have HNS := Lib.hid (HW.out.names f hfm)
      have hfu : f.b.length ≤ 1099511627776 := by have := D.used_mem hfm; have := HU.out; omega
      have HBO : Hid (bytesOf d.fs f.nm = f.b ∧ D.isThere d.fs f.nm = true ∧ safeOf d.fs f.nm = f.safe) := Lib.hid (by
        unfold bytesOf safeOf
        rw [find_some HW.out.1.2.1 hfm]
        exact ⟨rfl, D.isThere_mem.2 ⟨f, hfm, rfl⟩, rfl⟩)
      have HCN := Lib.hid hcn
      have HFE := Lib.hid hfe
      clear hge hfe hfm hcn
      go_wp2_with fail
      refine (PRead_any d X gd f.nm wr HDR.out HW.out.1.2.1 HNS.out (by have := HU.out; omega)).mono ?_
      rintro e w3 ⟨v, rfl, hown⟩
      rw [HBO.out.1] at hown
      rw [HBO.out.2.1]
      have hst1 := fun m => run_string (P := Try.prog) (w := w3.drewN m) (hown.rep.same (fun _ h => h) fun _ _ => rfl) 41 5 9 Try.underlying41 Try.underlying5 Try.underlying9
      obtain ⟨va, vc, rfl⟩ := hown.slice
      have hb3 : Below w1.heap.size w1 w3 := HBR.out.trans (hown.1.mono hzr)
      have HB3 := Lib.hid hb3
      have HD3 : Hid (PDskIn w3 X gd d) := Lib.hid (HD1.out.next hb3)
      have hq3 : DkAt w3 Y gr d (.slice la fv.length lc) fv := HQ1.out.same (fun _ h => h) fun j hj => hb3.block j (Nat.lt_of_lt_of_le (HY.out j hj) HB1.out.size)
      have hcn3 : w3.cell? ⟨gn, k, none⟩ = some (.string f.nm) := (World.cell?_of_block (a := ⟨gn, k, none⟩) (hb3.block gn hgn2)).trans HCN.out
      have hz3 := hb3.size
      have hgn3 : gn < w3.heap.size := by omega
      obtain ⟨cc3, ⟨-, c1, -, -⟩, -, hgr3, -, -⟩ := hq3.cells
      obtain ⟨ga, c, hv, -, -, hga3, -, -, e0, e1, e2, -⟩ := hq3.file k hlt
      cases hv
      obtain ⟨ba, bc, hbv, hbl⟩ := hq3.bytes k hlt
      have hrep2 : RepB w3 (fun b => b < w3.heap.size) f.b (.slice ba f.b.length bc) := by
        have h1 := hq3.each fv[k] (List.getElem_mem hlt)
        rw [hbv, ← HFE.out] at h1
        exact (RepB.of_own h1).weak fun _ h => h.2
      have hst2 := fun m => run_string (P := Try.prog) (w := w3.drewN m) (hrep2.same (fun _ h => h) fun _ _ => rfl) 41 5 9 Try.underlying41 Try.underlying5 Try.underlying9
      rw [hbv, ← HFE.out] at e1
      rw [← HFE.out] at e0 e2
      obtain ⟨sq, hsq⟩ : ∃ sq, sq = strOf f.b := ⟨_, rfl⟩
      simp only [← hsq] at hst1 hst2
      obtain ⟨n, hn⟩ : ∃ n, n = f.b.length := ⟨_, rfl⟩
      have HOWN : Hid (Own wr f.b (.slice va n vc) w3) := Lib.hid (by rw [hn]; exact hown)
      have HN := Lib.hid hn
      rw [← hn] at e1 hfu ⊢
      simp only [← hn] at hst1 hst2
      have HSF : Hid (∀ m, Calls Try.prog 18 #[.pointer (some ⟨gd, 0, none⟩), .string f.nm] (w3.drewN m) fun e w' => e = .returned (.int .i64 (f.safe : Int)) ∧ w' = w3.drewN m) := Lib.hid fun m => (PSafe_any d X gd f.nm (w3.drewN m) (HD3.out.1.same (fun _ h => h) fun _ _ => rfl) HW.out.1.2.1 HNS.out).mono fun e w' h => ⟨by rw [h.1, HBO.out.2.2], h.2.symm⟩
      clear hown hb3 hq3 hsq hbv hbl hrep2 hn hcn2
      go_wp2_with fail
      go_quiet ((go_at_call 18; exact Calls.quiet_of_same (HSF.out _)))
      clear hst1 hst2 e0 e1 e2 c1 hcn3
      have HO0 : Hid (∀ m, Own wr f.b (.slice va n vc) (w3.drewN m)) := Lib.hid fun m => ⟨⟨HOWN.out.1.os, HOWN.out.1.tape, HOWN.out.1.output, HOWN.out.1.size, HOWN.out.1.block⟩, HOWN.out.2⟩
      clear hgr3 hga3 hgn3 hz3 cc3
      go_wp2_with fail
      obtain ⟨wo, hwo⟩ : ∃ wo : World, wo = wr := ⟨_, rfl⟩
      subst hwo
      go_loopg [9] n (fun g z wr => ∃ (j : Nat) (L : List UInt8), z = .int .i64 (j : Int) ∧ j + g = n ∧ L.length = n ∧ Own wo L (.slice va n vc) wr)
      case atStart => exact ⟨0, f.b, rfl, by omega, HN.out.symm, HO0.out _⟩
      case round =>
        obtain ⟨j, L, rfl, hjg, hLn, hown⟩ := hrel
        have HO := Lib.hid hown
        have HLN := Lib.hid hLn
        clear hown
        by_cases hj : j < n
        · have hjj : (j : Int) < (n : Int) := by omega
          obtain ⟨g, hva, -, hgz⟩ := HO.out.head (by omega)
          subst hva
          obtain ⟨cj, fj⟩ := HO.out.at hLn.symm j (by omega)
          obtain ⟨b, hb⟩ : ∃ b, b = L[j]'(by omega) := ⟨_, rfl⟩
          rw [← hb] at cj
          have ex : bits .xor .u8 (b.toNat : Int) 1 = ((b ^^^ 1).toNat : Int) := u8_x b 1
          have HNX : Hid (Own wo (L.set j (b ^^^ 1)) (.slice (some ⟨g, 0, none⟩) n vc) (wr.setCell ⟨g, j, none⟩ (.int .u8 ((b ^^^ 1).toNat : Int)))) := Lib.hid (HO.out.put hLn.symm j _ rfl)
          obtain ⟨b2, hb2⟩ : ∃ b2, b2 = b ^^^ 1 := ⟨_, rfl⟩
          rw [← hb2] at ex HNX
          have hb3 : b2.toNat < 256 := b2.toNat_lt
          have hn2 : (n : Int) ≤ 1099511627776 := by omega
          clear hb hb2 hLn
          go_wp2_with fail
          go_roundg (gk - 1)
          case measure => omega
          case rel => exact ⟨j + 1, _, by go_num, by omega, by rw [List.length_set]; exact HLN.out, HNX.out⟩
        · have hjj : ¬ (j : Int) < (n : Int) := by omega
          have HBN : Hid (Below w1.heap.size w1 wr) := Lib.hid (HBR.out.trans (HO.out.1.mono hzr))
          clear hLn
          go_wp2_with fail
          go_roundg (go - 1)
          case measure => omega
          case rel => exact ⟨k + 1, by go_num, by omega, HBN.out⟩
    · have hkk : ¬ (k : Int) < (fv.length : Int) := by omega
      clear hlt
      go_wp2_with fail
      refine (PRead_any d X gd nmNone wr HDR.out HW.out.1.2.1 (by decide) (by have := HU.out; omega)).mono ?_
      rintro e w3 ⟨v, rfl, hown⟩
      have HB3 : Hid (Below w.heap.size w w3) := Lib.hid (HB1.out.trans ((HBR.out.trans (hown.1.mono hzr)).mono HB1.out.size))
      have HD3 : Hid (PDskIn w3 X gd d) := Lib.hid (HDR.out.next hown.1)
      cases ht : D.isThere d.fs nmNone with
      | true =>
        obtain ⟨va, vc, rfl⟩ := hown.slice
        clear hown ht
        go_wp2_with fail
        go_ret
        exact ⟨rfl, HB3.out⟩
      | false =>
        have HNT := Lib.hid (none_there ht)
        rw [HNT.out.1] at hown
        obtain ⟨va, vc, rfl⟩ := hown.slice
        clear hown ht
        go_wp2_with fail
        refine (PSafe_any d X gd nmNone w3 HD3.out.1 HW.out.1.2.1 (by decide)).mono ?_
        rintro e w4 ⟨rfl, rfl⟩
        rw [HNT.out.2]
        go_wp2_with fail
        go_ret
        exact ⟨rfl, HB3.out⟩
end Go.Proofs.Ytgiipkmkmomofaa.M

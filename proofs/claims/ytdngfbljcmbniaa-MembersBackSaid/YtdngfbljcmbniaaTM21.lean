/- Package members: is it a configuration? Package members: are they configurations? The document's two configurations that are the same. -/
import Derived.Test.YtdngfbljcmbniaaTM16
import Derived.StillTailTactics
import Derived.Deep.QuietTactic
/- Part: MmD. -/
namespace Go.Proofs.Ytdngfbljcmbniaa.M
open Go.RowKit

set_option maxRecDepth 20000 in
set_option maxHeartbeats 1600000 in
theorem isConf_any (c : Cf) (F : Nat → Prop) (vv lv : Value) (w : World) (hv : RepI w F c.v vv) (hl : RepI w F c.l lv) (hF : ∀ k, F k → k < w.heap.size) (hs : c.v.length + c.l.length ≤ 9223372036854775807) :
    Calls Try.prog 18 #[.agg #[vv, lv]] w fun e w' => e = .returned (.bool (yes c.ok)) ∧ Below w.heap.size w w' := by
  have hsz := Lib.hid fun W F' h1 h2 => size_any c F' vv lv W h1 h2 hs
  obtain ⟨a, k, hvv, -⟩ := hv.slice
  obtain ⟨a', k', hlv, -⟩ := hl.slice
  obtain ⟨n, hn⟩ : ∃ n, n = c.v.length := ⟨_, rfl⟩
  obtain ⟨m, hm⟩ : ∃ m, m = c.l.length := ⟨_, rfl⟩
  obtain ⟨y, hy⟩ : ∃ y, y = yes c.ok := ⟨_, rfl⟩
  rw [← hy]
  rw [← hn] at hvv
  rw [← hm] at hlv
  rw [← hn, ← hm] at hsz hs
  subst hvv hlv
  obtain ⟨W, hW⟩ : ∃ W, W = w.alloc (.cells #[.slice a n k, .slice a' m k'] 25) := ⟨_, rfl⟩
  have HB : Hid (Below w.heap.size w W) := Lib.hid (by rw [hW]; exact below_alloc _ _)
  obtain ⟨g, hg⟩ : ∃ g, g = w.heap.size := ⟨_, rfl⟩
  have HAT : Hid (∀ w' : World, Below W.heap.size W w' → CfAt w' F g c (.slice a n k) (.slice a' m k')) := Lib.hid fun w' hb => by
    have h0 : CfAt W F g c (.slice a n k) (.slice a' m k') := ⟨by rw [hW, hg]; exact heap_alloc_new w _, hv.below hF (HB.out), hl.below hF HB.out, fun k hk => Nat.lt_of_lt_of_le (hF k hk) HB.out.size⟩
    exact h0.next hb
  have HY := Lib.hid hy
  have HN := Lib.hid hn
  have HM := Lib.hid hm
  have HG := Lib.hid hg
  have HW := Lib.hid hW
  clear hv hl hF hg hW hy hn hm
  by_cases h0 : n = 0
  · subst h0
    have HE : Hid (y = false) := Lib.hid (by rw [HY.out]; exact yes_f fun h => h.1 (List.length_eq_zero_iff.1 HN.out.symm))
    go_enter Try.func18, Try.ntmps18
    go_wp2_with fail
    go_ret
    rw [← HW.out]
    exact ⟨by rw [HE.out]; rfl, HB.out⟩
  have hn0 : ¬ (n : Int) = 0 := by omega
  have q0 : ((n : Int) == 0) = false := by simpa using h0
  have hat := HAT.out W (Below.refl _ _)
  obtain ⟨c0, c1, hgz⟩ := hat.cells
  go_enter Try.func18, Try.ntmps18
  go_wp2_with fail
  rw [← HG.out, ← HW.out]
  refine (hsz.out W F hat.2.1 hat.2.2.1).mono ?_
  rintro e w1 ⟨rfl, hb1⟩
  have HB1 := Lib.hid hb1
  have HNE : Hid (c.v ≠ []) := Lib.hid fun h => h0 (by rw [HN.out, h]; rfl)
  clear hb1 hat c0 c1 hgz
  by_cases h9 : n + m > 9
  · have q9 : decide (((n + m : Nat) : Int) > 9) = true := decide_eq_true (by omega)
    have HE : Hid (y = false) := Lib.hid (by rw [HY.out]; exact yes_f fun h => by have := h.2.1; rw [← HN.out, ← HM.out] at this; omega)
    go_wp2_with fail
    go_ret
    exact ⟨by rw [HE.out]; rfl, HB.out.trans (HB1.out.mono HB.out.size)⟩
  have q9 : decide (((n + m : Nat) : Int) > 9) = false := decide_eq_false (by omega)
  have H9 : Hid (c.v.length + c.l.length ≤ 9) := Lib.hid (by rw [← HN.out, ← HM.out]; omega)
  have hat := HAT.out w1 HB1.out
  obtain ⟨c0, c1, hgz⟩ := hat.cells
  have HATT := Lib.hid hat
  clear hat
  go_wp2_with fail
  refine (rise_any c.v F _ w1 HATT.out.2.1).mono ?_
  rintro e w2 ⟨rfl, rfl⟩
  by_cases hr : Rise c.v
  · rw [yes_t hr]
    go_wp2_with fail
    refine (rise_any c.l F _ w2 HATT.out.2.2.1).mono ?_
    rintro e w3 ⟨rfl, rfl⟩
    by_cases hr2 : Rise c.l
    · rw [yes_t hr2]
      go_wp2_with fail
      refine (ContainsBoth_any c c.l F F g _ _ _ w3 HATT.out HATT.out.2.2.1 HATT.out.2.2.2).mono ?_
      rintro e w4 ⟨rfl, hb4⟩
      have HE : Hid (y = !yes (∃ x ∈ c.l, x ∈ c.v)) := Lib.hid (by
        rw [HY.out]
        by_cases hx : ∃ x ∈ c.l, x ∈ c.v
        · rw [yes_t hx]; exact yes_f fun h => by obtain ⟨x, h1, h2⟩ := hx; exact h.2.2.2.2 x h1 h2
        · rw [yes_f hx]; exact yes_t ⟨HNE.out, H9.out, hr, hr2, fun x h1 h2 => hx ⟨x, h1, h2⟩⟩)
      have HB4 : Hid (Below w.heap.size w w4) := Lib.hid (HB.out.trans ((HB1.out.trans (hb4.mono HB1.out.size)).mono HB.out.size))
      clear hb4
      go_wp2_with fail
      go_ret
      exact ⟨by rw [HE.out]; rfl, HB4.out⟩
    · rw [yes_f hr2]
      have HE : Hid (y = false) := Lib.hid (by rw [HY.out]; exact yes_f fun h => hr2 h.2.2.2.1)
      go_wp2_with fail
      go_ret
      exact ⟨by rw [HE.out]; rfl, HB.out.trans (HB1.out.mono HB.out.size)⟩
  · rw [yes_f hr]
    have HE : Hid (y = false) := Lib.hid (by rw [HY.out]; exact yes_f fun h => hr h.2.2.1)
    go_wp2_with fail
    go_ret
    exact ⟨by rw [HE.out]; rfl, HB.out.trans (HB1.out.mono HB.out.size)⟩
end Go.Proofs.Ytdngfbljcmbniaa.M

/- Part: MmR. -/
namespace Go.Proofs.Ytdngfbljcmbniaa.M
open Go.RowKit

/-- A configuration in memory: its two lists. -/
structure Cm where
  c : Cf
  v : Value
  l : Value

def RepC (w : World) (F : Nat → Prop) (p : Cm) : Prop := RepI w F p.c.v p.v ∧ RepI w F p.c.l p.l ∧ p.c.v.length + p.c.l.length ≤ 1000000

/-- A slice of configurations. -/
def RepCs (w : World) (F : Nat → Prop) (l : List Cm) (v : Value) : Prop :=
  (∀ p ∈ l, RepC w F p) ∧ ((l = [] ∧ Bare v) ∨ ∃ b off c, v = .slice (some ⟨b, off, none⟩) l.length c ∧ F b ∧ l.length ≤ c ∧ c ≤ 9223372036854775807 ∧
    ∀ (i : Nat) (hi : i < l.length), w.cell? ⟨b, off + i * 2, none⟩ = some l[i].v ∧ w.cell? ⟨b, off + i * 2 + 1, none⟩ = some l[i].l)

theorem RepC.same {w w' : World} {F : Nat → Prop} {p : Cm} (h : RepC w F p) (hF : ∀ k, F k → k < w.heap.size) (hb : Below w.heap.size w w') : RepC w' F p := ⟨h.1.below hF hb, h.2.1.below hF hb, h.2.2⟩

theorem RepCs.same {w w' : World} {F : Nat → Prop} {l : List Cm} {v : Value} (h : RepCs w F l v) (hF : ∀ k, F k → k < w.heap.size) (hb : Below w.heap.size w w') : RepCs w' F l v := by
  refine ⟨fun p hp => (h.1 p hp).same hF hb, ?_⟩
  rcases h.2 with h | ⟨b, off, c, hv, hFb, h1, h2, h3⟩
  · exact .inl h
  · exact .inr ⟨b, off, c, hv, hFb, h1, h2, fun i hi => by
      have e := hb.block b (hF b hFb)
      exact ⟨(World.cell?_of_block (a := ⟨b, off + i * 2, none⟩) e).trans (h3 i hi).1, (World.cell?_of_block (a := ⟨b, off + i * 2 + 1, none⟩) e).trans (h3 i hi).2⟩⟩

theorem RepCs.slice {w : World} {F : Nat → Prop} {l : List Cm} {v : Value} (h : RepCs w F l v) : ∃ a c, v = .slice a l.length c ∧ l.length ≤ 9223372036854775807 := by
  rcases h.2 with ⟨rfl, a, c, rfl, h1, -⟩ | ⟨b, off, c, rfl, -, h1, h2, -⟩
  · exact ⟨a, c, rfl, by simp⟩
  · exact ⟨_, _, rfl, by omega⟩

theorem RepCs.elem {w : World} {F : Nat → Prop} {l : List Cm} {a : Option Addr} {n c : Nat} (h : RepCs w F l (.slice a n c)) (i : Nat) (hi : i < l.length) :
    ∃ b off, a = some ⟨b, off, none⟩ ∧ F b ∧ w.cell? ⟨b, off + i * 2, none⟩ = some l[i].v ∧ w.cell? ⟨b, off + i * 2 + 1, none⟩ = some l[i].l ∧ RepC w F l[i] := by
  rcases h.2 with ⟨rfl, -⟩ | ⟨b, off, c', hv, hF, h1, h2, hc⟩
  · simp at hi
  · cases hv
    exact ⟨b, off, rfl, hF, (hc i hi).1, (hc i hi).2, h.1 _ (List.getElem_mem hi)⟩

set_option maxRecDepth 20000 in
set_option maxHeartbeats 3200000 in
theorem CRight_any (l : List Cm) (F : Nat → Prop) (v : Value) (w : World) (hv : RepCs w F l v) (hF : ∀ k, F k → k < w.heap.size) :
    Calls Try.prog 13 #[v] w fun e w' => e = .returned (.bool (yes (∀ p ∈ l, p.c.ok))) ∧ Below w.heap.size w w' := by
  obtain ⟨va, vc, rfl, hl⟩ := hv.slice
  obtain ⟨n, hn⟩ : ∃ n, n = l.length := ⟨_, rfl⟩
  obtain ⟨y, hy⟩ : ∃ y, y = yes (∀ p ∈ l, p.c.ok) := ⟨_, rfl⟩
  rw [← hy]
  rw [← hn] at hl ⊢
  have HV := Lib.hid hv
  have HF := Lib.hid hF
  have HN := Lib.hid hn
  have HY := Lib.hid hy
  rw [← hn] at HV
  clear hv hn hy hF
  go_enter Try.func13, Try.ntmps13
  go_wp2_with fail
  obtain ⟨w0, hw0⟩ : ∃ w0 : World, w0 = w := ⟨_, rfl⟩
  subst hw0
  go_loopg [7] n (fun gk i wr => ∃ k : Nat, k + gk = n ∧ i = .int .i64 (k : Int) ∧ Hid (Below w0.heap.size w0 wr) ∧ Hid (∀ p ∈ l.take k, p.c.ok))
  case atStart => exact ⟨0, by omega, rfl, Lib.hid (Below.refl _ _), Lib.hid (by simp)⟩
  case round =>
    obtain ⟨k, hk, rfl, HB, HK⟩ := hrel
    by_cases hlt : k < n
    · have hkk : (k : Int) < (n : Int) := by omega
      have hlt2 : k < l.length := by rw [← HN.out]; exact hlt
      obtain ⟨b, off, rfl, hb, e0, e1, hc⟩ := (HV.out.same HF.out HB.out).elem k hlt2
      have hbz : b < wr.heap.size := Nat.lt_of_lt_of_le (HF.out b hb) HB.out.size
      have htk : l.take (k + 1) = l.take k ++ [l[k]] := by rw [List.take_add_one, List.getElem?_eq_getElem hlt2]; rfl
      have hmem : l[k] ∈ l := List.getElem_mem hlt2
      obtain ⟨p, hp⟩ : ∃ p, p = l[k] := ⟨_, rfl⟩
      rw [← hp] at e0 e1 hc htk hmem
      obtain ⟨cc, vv, lv⟩ := p
      obtain ⟨a, kk, hvv, -⟩ := hc.1.slice
      obtain ⟨a', kk', hlv, -⟩ := hc.2.1.slice
      simp only at hvv hlv e0 e1
      subst hvv hlv
      have HC := Lib.hid hc
      have HTK := Lib.hid htk
      have HMEM := Lib.hid hmem
      clear hp hc htk hmem hb
      go_wp2_with fail
      refine (isConf_any cc F _ _ _ (HC.out.1.below (fun k hk => Nat.lt_of_lt_of_le (HF.out k hk) HB.out.size) (below_alloc _ _)) (HC.out.2.1.below (fun k hk => Nat.lt_of_lt_of_le (HF.out k hk) HB.out.size) (below_alloc _ _)) (fun k hk => by have := HF.out k hk; have := HB.out.size; simp; omega) (by have := HC.out.2.2; simp only at this; omega)).mono ?_
      rintro e w1 ⟨rfl, hb1⟩
      have HB1 : Hid (Below w0.heap.size w0 w1) := Lib.hid (HB.out.trans (((below_alloc wr _).trans (hb1.mono (by simp))).mono HB.out.size))
      clear hb1 e0 e1
      by_cases hok : cc.ok
      · rw [yes_t hok]
        have HE : Hid (∀ p ∈ l.take (k + 1), p.c.ok) := Lib.hid fun q hq => by
          rw [HTK.out] at hq
          rcases List.mem_append.1 hq with hq | hq
          · exact HK.out q hq
          · simp at hq; rw [hq]; exact hok
        clear hok
        go_wp2_with fail
        go_roundg (gk - 1)
        case measure => omega
        case rel => exact ⟨k + 1, by omega, by go_num, HB1, HE⟩
      · rw [yes_f hok]
        have HE : Hid (y = false) := Lib.hid (by rw [HY.out]; exact yes_f fun h => hok (h _ HMEM.out))
        clear hok
        go_wp2_with fail
        go_ret
        exact ⟨by rw [HE.out]; rfl, HB1.out⟩
    · obtain rfl : k = n := by omega
      have hkk : ¬ ((k : Nat) : Int) < (k : Int) := by omega
      have HE : Hid (y = true) := Lib.hid (by rw [HY.out]; exact yes_t (by have := HK.out; rw [HN.out, List.take_length] at this; exact this))
      go_wp2_with fail
      go_ret
      exact ⟨by rw [HE.out]; rfl, HB.out⟩
end Go.Proofs.Ytdngfbljcmbniaa.M

/- Part: MmP. -/
namespace Go.Proofs.Ytdngfbljcmbniaa.M
open Go.RowKit

theorem take_eq {a b : List Int} {k : Nat} (h : a.take k = b.take k) (hk : k < a.length) (hk' : k < b.length) : a.take (k + 1) = b.take (k + 1) ↔ a[k] = b[k] := by
  rw [take_snoc hk, take_snoc hk', h]
  constructor
  · intro e; exact (List.cons.inj (List.append_cancel_left e)).1
  · intro e; rw [e]

theorem below_dr (n : Nat) (w : World) (q : Nat) : Below n w (w.drewN q) := ⟨rfl, rfl, rfl, Nat.le_refl _, fun _ _ => rfl⟩

set_option maxRecDepth 20000 in
set_option maxHeartbeats 3200000 in
theorem RefSame_any (c d : Cf) (F G : Nat → Prop) (vv lv ww mv : Value) (w : World) (hv : RepI w F c.v vv) (hl : RepI w F c.l lv) (hv' : RepI w G d.v ww) (hl' : RepI w G d.l mv) (hF : ∀ k, F k → k < w.heap.size) (hG : ∀ k, G k → k < w.heap.size) :
    Calls Try.prog 8 #[.agg #[vv, lv], .agg #[ww, mv]] w fun e w' => e = .returned (.bool (yes (c = d))) ∧ Below w.heap.size w w' := by
  obtain ⟨a, k, hvv, hx1⟩ := hv.slice
  obtain ⟨a', k', hlv, hx2⟩ := hl.slice
  obtain ⟨b, j, hww, hx3⟩ := hv'.slice
  obtain ⟨b', j', hmv, hx4⟩ := hl'.slice
  obtain ⟨n, hn⟩ : ∃ n, n = c.v.length := ⟨_, rfl⟩
  obtain ⟨m, hm⟩ : ∃ m, m = c.l.length := ⟨_, rfl⟩
  obtain ⟨p, hp⟩ : ∃ p, p = d.v.length := ⟨_, rfl⟩
  obtain ⟨q, hq⟩ : ∃ q, q = d.l.length := ⟨_, rfl⟩
  obtain ⟨y, hy⟩ : ∃ y, y = yes (c = d) := ⟨_, rfl⟩
  rw [← hy]
  rw [← hn] at hvv hx1
  rw [← hm] at hlv hx2
  rw [← hp] at hww hx3
  rw [← hq] at hmv hx4
  subst hvv hlv hww hmv
  obtain ⟨W, hW⟩ : ∃ W, W = (w.alloc (.cells #[.slice a n k, .slice a' m k'] 25)).alloc (.cells #[.slice b p j, .slice b' q j'] 25) := ⟨_, rfl⟩
  have HB : Hid (Below w.heap.size w W) := Lib.hid (by rw [hW]; exact ((Below.refl _ w).alloc (Nat.le_refl _) _).alloc (by simp) _)
  obtain ⟨g, hg⟩ : ∃ g, g = w.heap.size := ⟨_, rfl⟩
  obtain ⟨h, hh⟩ : ∃ h, h = w.heap.size + 1 := ⟨_, rfl⟩
  have HBX : Hid (W.heap[g]? = some (.cells #[.slice a n k, .slice a' m k'] 25)) := Lib.hid (by rw [hW, hg]; exact old_alloc (heap_alloc_new w _))
  have HCX : Hid (W.heap[h]? = some (.cells #[.slice b p j, .slice b' q j'] 25)) := Lib.hid (by rw [hW, hh]; exact heap_new _ _ _ (by simp))
  have HV := Lib.hid (hv.below hF HB.out)
  have HL := Lib.hid (hl.below hF HB.out)
  have HV' := Lib.hid (hv'.below hG HB.out)
  have HL' := Lib.hid (hl'.below hG HB.out)
  have HF : Hid (∀ k, F k → k < W.heap.size) := Lib.hid fun k hk => Nat.lt_of_lt_of_le (hF k hk) HB.out.size
  have HG' : Hid (∀ k, G k → k < W.heap.size) := Lib.hid fun k hk => Nat.lt_of_lt_of_le (hG k hk) HB.out.size
  have HN := Lib.hid hn
  have HM := Lib.hid hm
  have HP := Lib.hid hp
  have HQ := Lib.hid hq
  have HG := Lib.hid hg
  have HH := Lib.hid hh
  have HW := Lib.hid hW
  have HY := Lib.hid hy
  clear hv hl hv' hl' hF hG hn hm hp hq hg hh hW hy
  by_cases h1 : n = p
  · have q1 : ((n : Int) != (p : Int)) = false := by simp [h1]
    by_cases h2 : m = q
    · have q2 : ((m : Int) != (q : Int)) = false := by simp [h2]
      subst h1 h2
      go_enter Try.func8, Try.ntmps8
      go_wp2_with fail
      rw [← HH.out, ← HG.out, ← HW.out]
      go_loopg [5] n (fun gk i wr => ∃ z : Nat, z + gk = n ∧ i = .int .i64 (z : Int) ∧ Hid (wr.heap = W.heap ∧ Below w.heap.size w wr) ∧ Hid (c.v.take z = d.v.take z))
      case atStart => exact ⟨0, by omega, rfl, Lib.hid ⟨rfl, HB.out⟩, Lib.hid (by simp)⟩
      case round =>
        obtain ⟨z, hz, rfl, HWR, HT⟩ := hrel
        obtain ⟨c0, c1, -, -, -⟩ := block2' (w := wr) (by rw [HWR.out.1]; exact HBX.out)
        obtain ⟨d0, d1, -, -, -⟩ := block2' (w := wr) (by rw [HWR.out.1]; exact HCX.out)
        have HRA := Lib.hid (HV.out.same (w' := wr) (fun _ h => h) fun k _ => by rw [HWR.out.1])
        have HRB := Lib.hid (HV'.out.same (w' := wr) (fun _ h => h) fun k _ => by rw [HWR.out.1])
        by_cases hlt : z < n
        · have hkk : (z : Int) < (n : Int) := by omega
          have hl1 : z < c.v.length := by rw [← HN.out]; exact hlt
          have hl2 : z < d.v.length := by rw [← HP.out]; exact hlt
          obtain ⟨ab, ao, rfl, -, e0, -, -⟩ := HRA.out.elem z hl1
          obtain ⟨bb, bo, rfl, -, f0, -, -⟩ := HRB.out.elem z hl2
          have ht := take_eq HT.out hl1 hl2
          obtain ⟨x, hx⟩ : ∃ x, x = c.v[z] := ⟨_, rfl⟩
          obtain ⟨u, hu⟩ : ∃ u, u = d.v[z] := ⟨_, rfl⟩
          rw [← hx] at e0
          rw [← hu] at f0
          rw [← hx, ← hu] at ht
          have HTT := Lib.hid ht
          have HNE : Hid (c.v.take (z + 1) ≠ d.v.take (z + 1) → y = false) := Lib.hid fun h => by rw [HY.out]; exact yes_f fun e => h (by rw [e])
          clear hx hu ht
          by_cases hxu : x = u
          · have q3 : (x != u) = false := by simpa using hxu
            have HT2 : Hid (c.v.take (z + 1) = d.v.take (z + 1)) := Lib.hid (HTT.out.2 hxu)
            clear hxu
            go_wp2_with fail
            go_quiet (fail)
            go_wp2_with fail
            go_roundg (gk - 1)
            case measure => omega
            case rel => exact ⟨z + 1, by omega, by go_num, Lib.hid ⟨HWR.out.1, HWR.out.2.trans (below_dr _ _ _)⟩, HT2⟩
          · have q3 : (x != u) = true := by simpa using hxu
            have HE : Hid (y = false) := Lib.hid (HNE.out fun e => hxu (HTT.out.1 e))
            clear hxu
            go_wp2_with fail
            go_quiet (fail)
            go_wp2_with fail
            go_ret
            exact ⟨by rw [HE.out]; rfl, HWR.out.2.trans (below_dr _ _ _)⟩
        · obtain rfl : z = n := by omega
          have hkk : ¬ ((z : Nat) : Int) < (z : Int) := by omega
          have HEV : Hid (c.v = d.v) := Lib.hid (by have := HT.out; conv at this => lhs; rw [HN.out]
                                                    conv at this => rhs; rw [HP.out]
                                                    rwa [List.take_length, List.take_length] at this)
          go_wp2_with fail
          obtain ⟨wo, hwo⟩ : ∃ wo : World, wo = wr := ⟨_, rfl⟩
          subst hwo
          have HWO := HWR
          clear HWR HRA HRB c0 c1 d0 d1 HT hkk hlt hz
          go_loopg [6] m (fun gk i wr => ∃ z : Nat, z + gk = m ∧ i = .int .i64 (z : Int) ∧ Hid (wr.heap = W.heap ∧ Below w.heap.size w wr) ∧ Hid (c.l.take z = d.l.take z))
          case atStart => exact ⟨0, by omega, rfl, HWO, Lib.hid (by simp)⟩
          case round =>
            obtain ⟨z, hz, rfl, HWR, HT⟩ := hrel
            obtain ⟨c0, c1, -, -, -⟩ := block2' (w := wr) (by rw [HWR.out.1]; exact HBX.out)
            obtain ⟨d0, d1, -, -, -⟩ := block2' (w := wr) (by rw [HWR.out.1]; exact HCX.out)
            have HRA := Lib.hid (HL.out.same (w' := wr) (fun _ h => h) fun k _ => by rw [HWR.out.1])
            have HRB := Lib.hid (HL'.out.same (w' := wr) (fun _ h => h) fun k _ => by rw [HWR.out.1])
            by_cases hlt : z < m
            · have hkk : (z : Int) < (m : Int) := by omega
              have hl1 : z < c.l.length := by rw [← HM.out]; exact hlt
              have hl2 : z < d.l.length := by rw [← HQ.out]; exact hlt
              obtain ⟨ab, ao, rfl, -, e0, -, -⟩ := HRA.out.elem z hl1
              obtain ⟨bb, bo, rfl, -, f0, -, -⟩ := HRB.out.elem z hl2
              have ht := take_eq HT.out hl1 hl2
              obtain ⟨x, hx⟩ : ∃ x, x = c.l[z] := ⟨_, rfl⟩
              obtain ⟨u, hu⟩ : ∃ u, u = d.l[z] := ⟨_, rfl⟩
              rw [← hx] at e0
              rw [← hu] at f0
              rw [← hx, ← hu] at ht
              have HTT := Lib.hid ht
              have HNE : Hid (c.l.take (z + 1) ≠ d.l.take (z + 1) → y = false) := Lib.hid fun h => by rw [HY.out]; exact yes_f fun e => h (by rw [e])
              clear hx hu ht
              by_cases hxu : x = u
              · have q3 : (x != u) = false := by simpa using hxu
                have HT2 : Hid (c.l.take (z + 1) = d.l.take (z + 1)) := Lib.hid (HTT.out.2 hxu)
                clear hxu
                go_wp2_with fail
                go_quiet (fail)
                go_wp2_with fail
                go_roundg (gk - 1)
                case measure => omega
                case rel => exact ⟨z + 1, by omega, by go_num, Lib.hid ⟨HWR.out.1, HWR.out.2.trans (below_dr _ _ _)⟩, HT2⟩
              · have q3 : (x != u) = true := by simpa using hxu
                have HE : Hid (y = false) := Lib.hid (HNE.out fun e => hxu (HTT.out.1 e))
                clear hxu
                go_wp2_with fail
                go_quiet (fail)
                go_wp2_with fail
                go_ret
                exact ⟨by rw [HE.out]; rfl, HWR.out.2.trans (below_dr _ _ _)⟩
            · obtain rfl : z = m := by omega
              have hkk : ¬ ((z : Nat) : Int) < (z : Int) := by omega
              have HEL : Hid (c.l = d.l) := Lib.hid (by have := HT.out; conv at this => lhs; rw [HM.out]
                                                        conv at this => rhs; rw [HQ.out]
                                                        rwa [List.take_length, List.take_length] at this)
              have HE : Hid (y = true) := Lib.hid (by
                rw [HY.out]
                have h1 := HEV.out
                have h2 := HEL.out
                cases c; cases d
                exact yes_t (by simp only at h1 h2; rw [h1, h2]))
              go_wp2_with fail
              go_ret
              exact ⟨by rw [HE.out]; rfl, HWR.out.2⟩
    · have q2 : ((m : Int) != (q : Int)) = true := by simpa using (by omega : ¬ (m : Int) = q)
      have HE : Hid (y = false) := Lib.hid (by rw [HY.out]; exact yes_f fun e => h2 (by rw [HM.out, HQ.out, e]))
      subst h1
      go_enter Try.func8, Try.ntmps8
      go_wp2_with fail
      go_ret
      exact ⟨by rw [HE.out]; rfl, by rw [← HW.out]; exact HB.out⟩
  · have q1 : ((n : Int) != (p : Int)) = true := by simpa using (by omega : ¬ (n : Int) = p)
    have HE : Hid (y = false) := Lib.hid (by rw [HY.out]; exact yes_f fun e => h1 (by rw [HN.out, HP.out, e]))
    go_enter Try.func8, Try.ntmps8
    go_wp2_with fail
    go_ret
    exact ⟨by rw [HE.out]; rfl, by rw [← HW.out]; exact HB.out⟩
end Go.Proofs.Ytdngfbljcmbniaa.M

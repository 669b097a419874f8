/- The law DiskTwins: files don't touch one another. -/
import Derived.Test.YtgiipkmkmomofaaLawDFull
import Derived.Test.YtgiipkmkmomofaaOpenBlist
namespace Go.Proofs.Ytgiipkmkmomofaa.M
open Go.RowKit Go.Maps
open D (Fl Dk)

def nmMine : ByteArray := ⟨#[109, 105, 110, 101]⟩
def nmOther : ByteArray := ⟨#[111, 116, 104, 101, 114]⟩
def stayB : List UInt8 := [115, 116, 97, 121, 115]
def lostB : List UInt8 := [108, 111, 115, 116]
def bothB : List UInt8 := [115, 116, 97, 121, 115, 108, 111, 115, 116]
def fO : Fl := ⟨nmOther, bothB, 5⟩
def r100 : Dk := fresh 100000
def t1 : Dk := { r100 with fs := [⟨nmOther, stayB, 0⟩] }
def t2 : Dk := { r100 with fs := [⟨nmOther, stayB, 5⟩] }
def t3 : Dk := { r100 with fs := [fO] }
def tM (L : List UInt8) (s : Nat) : Dk := { r100 with fs := [⟨nmMine, L, s⟩, fO] }

theorem tw_1 : D.append r100 nmOther [stayB] = (0, t1) := by
  rw [append_at rfl (by decide +kernel) (by decide +kernel) (by decide)]
  kernel_rfl
theorem tw_2 : D.sync t1 [nmOther] = (0, t2) := by kernel_rfl
theorem tw_3 : D.append t2 nmOther [lostB] = (0, t3) := by
  rw [append_at rfl (by decide +kernel) (by decide +kernel) (by decide)]
  kernel_rfl
theorem okMine : D.okName nmMine = true := by decide +kernel
theorem free_t3 : t3.free = 99991 := by decide +kernel
theorem free_tM (L : List UInt8) (s : Nat) : (tM L s).free = 99991 - (L.length : Int) := by
  simp [tM, D.Dk.free, D.used, r100, fresh, fO, bothB]
  omega
theorem used_tM (L : List UInt8) (s : Nat) : D.used (tM L s).fs = L.length + 9 := by simp [tM, D.used, fO, bothB]
theorem used_t3 : D.used t3.fs = 9 := by decide +kernel

/-- The disk behind so many appends. -/
def tK (bs : List (List UInt8)) (k : Nat) : Dk := if k = 0 then t3 else tM (bs.take k).flatten 0

theorem tw_first (x : List UInt8) (h : x.length ≤ 500) : D.append t3 nmMine [x] = (0, tM [x].flatten 0) := by
  rw [append_at rfl okMine (by rw [free_t3]; simp; omega) (by simp [t3])]
  kernel_rfl

theorem tw_next (L x : List UInt8) (h : L.length + x.length ≤ 99991) : D.append (tM L 0) nmMine [x] = (0, tM (L ++ [x].flatten) 0) := by
  rw [append_at rfl okMine (by rw [free_tM]; simp; omega) (by simp [tM])]
  kernel_rfl

theorem flat_le (bs : List (List UInt8)) : ∀ k, (∀ (j : Nat) (hj : j < bs.length), j < k → bs[j].length ≤ 500) → (bs.take k).flatten.length ≤ 500 * k
  | 0, _ => by simp
  | k + 1, h => by
    have ih := flat_le bs k fun j hj hk => h j hj (by omega)
    by_cases hk : k < bs.length
    · rw [flat_snoc bs k hk, List.length_append]
      have := h k hk (by omega)
      omega
    · rw [List.take_of_length_le (by omega)]
      rw [List.take_of_length_le (by omega)] at ih
      omega

theorem tw_step (bs : List (List UInt8)) (k : Nat) (hk : k < bs.length) (hl : bs[k].length ≤ 500) (hs : (bs.take k).flatten.length ≤ 500 * k) (h40 : bs.length ≤ 40) : D.append (tK bs k) nmMine [bs[k]] = (0, tK bs (k + 1)) := by
  unfold tK
  rw [if_neg (by omega : ¬ k + 1 = 0)]
  cases k with
  | zero =>
    rw [if_pos rfl, tw_first _ hl, flat_snoc bs 0 hk]
    simp
  | succ k =>
    rw [if_neg (by omega), tw_next _ _ (by omega), flat_snoc bs (k + 1) hk]
    simp

theorem tw_cut (L : List UInt8) (K : Nat) (h : K ≤ L.length) : D.cut (tM L 0) nmMine (K : Int) = (0, tM (L.take K) 0) := by
  rw [cut_eq, if_neg (by simp [D.Dk.stopped, tM, r100, fresh])]
  rw [show (tM L 0).tick = tM L 0 by simp [D.Dk.tick, tM, r100, fresh]]
  unfold cutB
  rw [show (tM L 0).fs[D.find (tM L 0).fs nmMine]? = some ⟨nmMine, L, 0⟩ from by kernel_rfl]
  simp only
  rw [if_neg (by omega)]
  have e : (tM L 0).fs.modify (D.find (tM L 0).fs nmMine) (fun f => { f with b := f.b.take (K : Int).toNat, safe := min f.safe (K : Int).toNat }) = [⟨nmMine, L.take (K : Int).toNat, min 0 (K : Int).toNat⟩, fO] := by kernel_rfl
  rw [e]
  simp [tM]

theorem tw_nocut : D.cut t3 nmMine 0 = (30, t3) := by kernel_rfl
theorem tw_sync (L : List UInt8) : D.sync (tM L 0) [nmMine] = (0, tM L L.length) := by kernel_rfl
theorem tw_nosync : D.sync t3 [nmMine] = (30, t3) := by kernel_rfl
theorem tw_read (L : List UInt8) (s : Nat) : bytesOf (tM L s).fs nmOther = bothB ∧ D.isThere (tM L s).fs nmOther = true ∧ safeOf (tM L s).fs nmOther = 5 := ⟨by kernel_rfl, by kernel_rfl, by kernel_rfl⟩
theorem tw_read3 : bytesOf t3.fs nmOther = bothB ∧ D.isThere t3.fs nmOther = true ∧ safeOf t3.fs nmOther = 5 := ⟨by kernel_rfl, by kernel_rfl, by kernel_rfl⟩

def tC (L : List UInt8) : Dk := { r100 with fs := [⟨nmMine, L, L.length⟩, ⟨nmOther, stayB, 5⟩] }
theorem tw_crash (L : List UInt8) (k : Int) : (D.crash (tM L L.length) [k]).2 = tC L := by
  have e : D.stays ⟨nmMine, L, L.length⟩ (some k) = L.length := by
    unfold D.stays
    simp
  unfold D.crash tM tC
  simp only [D.crashFs, List.head?_cons, e, List.tail_cons, List.take_length]
  rfl
def tC3 (q : Nat) : Dk := { r100 with fs := [⟨nmOther, bothB.take q, q⟩] }
theorem tw_crash3 (k : Int) : ∃ q, 5 ≤ q ∧ q ≤ 9 ∧ (D.crash t3 [k]).2 = tC3 q := by
  have h := stays_le (f := fO) (by decide) (some k)
  exact ⟨D.stays fO (some k), h.1, h.2, rfl⟩
theorem tw_last (L : List UInt8) : bytesOf (tC L).fs nmMine = L ∧ D.isThere (tC L).fs nmMine = true ∧ bytesOf (tC L).fs nmOther = stayB ∧ D.isThere (tC L).fs nmOther = true := ⟨by kernel_rfl, by kernel_rfl, by kernel_rfl, by kernel_rfl⟩
theorem tw_last3 (q : Nat) : bytesOf (tC3 q).fs nmMine = [] ∧ D.isThere (tC3 q).fs nmMine = false ∧ bytesOf (tC3 q).fs nmOther = bothB.take q ∧ D.isThere (tC3 q).fs nmOther = true := ⟨by kernel_rfl, by kernel_rfl, by kernel_rfl, by kernel_rfl⟩
theorem used_tC (L : List UInt8) : D.used (tC L).fs = L.length + 5 := by simp [tC, D.used, stayB]
theorem used_tC3 (q : Nat) : D.used (tC3 q).fs ≤ 9 := by simp [tC3, D.used, bothB]; omega

theorem mod_at2 (r n : Int) (hn : 0 < n) : ∃ q : Nat, (r.tmod n + n).tmod n = (q : Int) ∧ (q : Int) < n ∧ -n < r.tmod n ∧ r.tmod n < n := by
  have a1 := Int.tmod_lt_of_pos r hn
  have a2 : -n < r.tmod n := Int.lt_tmod_of_pos r hn
  generalize r.tmod n = x at *
  have b1 := Int.tmod_lt_of_pos (x + n) hn
  have b2 := Int.tmod_nonneg n (show 0 ≤ x + n by omega)
  exact ⟨((x + n).tmod n).toNat, (Int.toNat_of_nonneg b2).symm, by omega, a2, a1⟩

/-- The state at the head of the loop. -/
def TwAt (w : World) (gd : Nat) (bs : List (List UInt8)) (k : Nat) (wr : World) : Prop :=
  k ≤ bs.length ∧ (bs.take k).flatten.length ≤ 500 * k ∧ ∃ X, DS w X gd (tK bs k) wr

theorem tK_used (bs : List (List UInt8)) (k : Nat) : D.used (tK bs k).fs ≤ (bs.take k).flatten.length + 9 := by
  unfold tK
  split
  · rw [used_t3]; omega
  · rw [used_tM]; omega

theorem DS.bytes {w wr : World} {X : Nat → Prop} {gd : Nat} {d : Dk} (h : DS w X gd d wr) {F : Nat → Prop} {L : List UInt8} {u : Value} (hu : RepB wr F L u) (hF : ∀ k, F k → k < wr.heap.size ∧ ¬ X k) (t : TypeId) {W : World} (hW : W = wr.alloc (.cells #[u] t)) :
    DS w X gd d W ∧ RepBl W (fun b => F b ∨ b = wr.heap.size) [L] (.slice (some ⟨wr.heap.size, 0, none⟩) 1 1) ∧ ∀ k, (F k ∨ k = wr.heap.size) → k < W.heap.size ∧ ¬ X k := by
  subst hW
  refine ⟨h.alloc _, RepBl.one hu rfl fun k hk => (hF k hk).1, fun k hk => ?_⟩
  rcases hk with hk | hk
  · have := hF k hk
    exact ⟨by simp; omega, this.2⟩
  · exact ⟨by rw [hk]; simp, fun hx => by have := h.lt k hx; omega⟩

set_option maxRecDepth 40000 in
set_option maxHeartbeats 6400000 in
theorem DiskTwins_any (bs : List (List UInt8)) (cut keep : Int) (F : Nat → Prop) (vb : Value) (w : World) (hv : RepBl w F bs vb) (hF : ∀ k, F k → k < w.heap.size) (hc1 : -9223372036854775808 ≤ cut) (hc2 : cut ≤ 9223372036854775807) (hk1 : -9223372036854775808 ≤ keep) (hk2 : keep ≤ 9223372036854775807) :
    Calls Try.prog 8 #[vb, .int .i64 cut, .int .i64 keep] w fun e w' => e = .returned (.bool true) ∧ Below w.heap.size w w' := by
  have kc := fun (w : World) (C : Array Value) (n c : Nat) => Lib.run_convert_bytes_const (P := Try.prog) w 41 5 C n c Try.underlying41 Try.underlying5
  obtain ⟨na, nc, rfl, hnl⟩ := hv.slice
  have HV := Lib.hid hv
  have HF := Lib.hid hF
  have HC1 := Lib.hid hc1
  have HC2 := Lib.hid hc2
  have HK1 := Lib.hid hk1
  have HK2 := Lib.hid hk2
  clear hv hF hc1 hc2 hk1 hk2
  by_cases h40 : 40 < bs.length
  · have q1 : (40 : Int) < (bs.length : Int) := by omega
    go_enter Try.func8, Try.ntmps8
    go_wp2_with fail
    refine (awake3_any w).mono ?_
    rintro e w1 ⟨rfl, hb1⟩
    have HB1 := Lib.hid hb1
    clear hb1
    go_wp2_with fail
    refine (awake3_any w1).mono ?_
    rintro e w2 ⟨rfl, hb2⟩
    have HB2 : Hid (Below w.heap.size w w2) := Lib.hid (HB1.out.trans (hb2.mono HB1.out.size))
    clear hb2
    go_wp2_with fail
    go_ret
    exact ⟨rfl, HB2.out⟩
  · have q1 : decide ((40 : Int) < (bs.length : Int)) = false := by simp; omega
    have H40 : Hid (bs.length ≤ 40) := Lib.hid (by omega)
    clear h40
    go_enter Try.func8, Try.ntmps8
    go_wp2_with fail
    refine (awake3_any w).mono ?_
    rintro e w1 ⟨rfl, hb1⟩
    have HB1 := Lib.hid hb1
    clear hb1
    go_wp2_with fail
    refine (New_any 100000 w1 (by omega)).mono ?_
    rintro e w2 ⟨rfl, hb2, hz2, hd2⟩
    have H2 : Hid (DS w _ _ r100 w2) := Lib.hid ⟨HB1.out.trans (hb2.mono HB1.out.size), fun k hk => Nat.le_trans HB1.out.size hk.1, ⟨hd2, fun k hk => by omega⟩, fresh_well (by omega) (by omega)⟩
    obtain ⟨gd, hgd⟩ : ∃ gd, gd = w1.heap.size + 1 := ⟨_, rfl⟩
    obtain ⟨X2, hX2⟩ : ∃ X2 : Nat → Prop, X2 = fun k => w1.heap.size ≤ k ∧ k < w1.heap.size + 2 := ⟨_, rfl⟩
    rw [← hgd, ← hX2] at H2
    rw [← hgd]
    clear hb2 hz2 hd2 hgd hX2
    go_wp2_with fail
    obtain ⟨a1, a2, a3⟩ := H2.out.one stayB 5 rfl (by decide) (5, 6) 5 41 rfl
    refine (DAppend a1 nmOther [stayB] _ _ (by decide) a2 a3 (by decide +kernel)).mono ?_
    rintro e w3 ⟨rfl, -, X3, -, h3⟩
    rw [tw_1] at h3 ⊢
    have H3 : Hid (DS w X3 gd t1 w3) := Lib.hid h3
    clear a1 a2 a3 h3
    go_wp2_with fail
    obtain ⟨a1, a2, a3⟩ := H3.out.names [nmOther] 1 rfl (by decide) 9 rfl
    refine (DSync a1 [nmOther] _ _ (by decide) a2 a3).mono ?_
    rintro e w4 ⟨rfl, -, X4, -, h4⟩
    rw [tw_2] at h4 ⊢
    have H4 : Hid (DS w X4 gd t2 w4) := Lib.hid h4
    clear a1 a2 a3 h4
    go_wp2_with fail
    obtain ⟨a1, a2, a3⟩ := H4.out.one lostB 4 rfl (by decide) (4, 5) 5 41 rfl
    refine (DAppend a1 nmOther [lostB] _ _ (by decide) a2 a3 (by decide +kernel)).mono ?_
    rintro e w5 ⟨rfl, -, X5, -, h5⟩
    rw [tw_3] at h5 ⊢
    have H5 : Hid (TwAt w gd bs 0 w5) := Lib.hid ⟨Nat.zero_le _, by simp, X5, h5⟩
    clear a1 a2 a3 h5
    go_wp2_with fail
    go_loopw [9, 10] (fun n i wr => ∃ (k : Nat) (y : Nat), i = .int .i64 (k : Int) ∧ n = .int .i64 (y : Int) ∧ y = (bs.take k).flatten.length ∧ TwAt w gd bs k wr) (fun _ i _ => bs.length - (intOf i).toNat)
    case atStart => exact ⟨0, 0, rfl, rfl, rfl, H5.out⟩
    case round =>
      obtain ⟨k, y, rfl, rfl, hy, hkl, hsum, X, hds⟩ := hrel
      have HDS := Lib.hid hds
      have HY := Lib.hid hy
      have HSUM := Lib.hid hsum
      have hy3 : y ≤ 20000 := by have := H40.out; omega
      clear hds hsum hy
      by_cases hlt : k < bs.length
      · have hkk : (k : Int) < (bs.length : Int) := by omega
        have hv2 : RepBl wr F bs (.slice na bs.length nc) := HV.out.same (fun _ h => h) fun j hj => HDS.out.below.block j (HF.out j hj)
        obtain ⟨b, off, u, rfl, hFb, hc, hu⟩ := hv2.elem k hlt
        have hbz : b < wr.heap.size := Nat.lt_of_lt_of_le (HF.out b hFb) HDS.out.below.size
        obtain ⟨ua, uc, rfl, hul⟩ := hu.slice
        obtain ⟨x, hx⟩ : ∃ x, x = bs[k].length := ⟨_, rfl⟩
        rw [← hx] at hc
        by_cases h500 : 500 < x
        · have q5 : (500 : Int) < (x : Int) := by omega
          clear h500 hx hu hv2 hul
          go_wp2_with fail
          go_ret
          exact ⟨rfl, HDS.out.below⟩
        · have q5 : decide ((500 : Int) < (x : Int)) = false := by simp; omega
          have hF2 : ∀ j, F j → j < wr.heap.size ∧ ¬ X j := fun j hj => ⟨Nat.lt_of_lt_of_le (HF.out j hj) HDS.out.below.size, fun h => by have := HDS.out.own j h; have := HF.out j hj; omega⟩
          obtain ⟨a1, a2, a3⟩ := HDS.out.bytes hu hF2 41 rfl
          rw [← hx] at a1 a2 a3
          have A1 := Lib.hid a1
          have A2 := Lib.hid a2
          have A3 := Lib.hid a3
          have hx5 : x ≤ 500 := by omega
          have HX := Lib.hid hx
          clear a1 a2 a3 h500 hx hu hv2 hul hF2
          have HSTEP : Hid (D.append (tK bs k) nmMine [bs[k]] = (0, tK bs (k + 1))) := Lib.hid (tw_step bs k hlt (by rw [← HX.out]; exact hx5) HSUM.out H40.out)
          have HB2 : Hid (D.used (tK bs k).fs + [bs[k]].flatten.length ≤ 1099511627776) := Lib.hid (by
            have h1 := tK_used bs k
            have h2 := HY.out
            simp
            have h3 := HX.out
            omega)
          have HSN : Hid ((bs.take (k + 1)).flatten.length = y + x) := Lib.hid (by rw [flat_snoc bs k hlt, List.length_append, ← HY.out, ← HX.out])
          go_wp2_with fail
          refine (DAppend A1.out nmMine [bs[k]] _ _ (by decide) A2.out A3.out HB2.out).mono ?_
          rintro e w6 ⟨rfl, -, X6, -, h6⟩
          rw [HSTEP.out] at h6 ⊢
          have H6 : Hid (TwAt w gd bs (k + 1) w6) := Lib.hid ⟨by omega, by rw [HSN.out]; have := HY.out; have := HSUM.out; omega, X6, h6⟩
          have hc6 : w6.cell? ⟨b, off + k, none⟩ = some (.slice ua x uc) := by
            have h7 := h6.below.block b (HF.out b hFb)
            have h8 := HDS.out.below.block b (HF.out b hFb)
            exact (World.cell?_of_block (a := ⟨b, off + k, none⟩) (h7.trans h8.symm)).trans hc
          have hbz6 : b < w6.heap.size := Nat.lt_of_lt_of_le (HF.out b hFb) h6.below.size
          clear h6
          go_wp2_with fail
          go_roundw
          case rel => exact ⟨k + 1, y + x, by go_num, by go_num, HSN.out.symm, H6.out⟩
          case measure => simp [intOf]; omega
      · have hkk : ¬ (k : Int) < (bs.length : Int) := by omega
        obtain rfl : k = bs.length := by omega
        clear hlt
        have htK : bs.take bs.length = bs := List.take_length
        have HFL : Hid (y = bs.flatten.length) := Lib.hid (by have := HY.out; rw [htK] at this; exact this)
        obtain ⟨K, hK, hK2, hx1, hx2⟩ := mod_at2 cut ((y : Int) + 1) (by omega)
        obtain ⟨x, hx⟩ : ∃ x, x = cut.tmod ((y : Int) + 1) := ⟨_, rfl⟩
        rw [← hx] at hK hx1 hx2
        have hxx := hx.symm
        have hK' : (x + (y : Int) + 1).tmod ((y : Int) + 1) = (K : Int) := by rw [Int.add_assoc]; exact hK
        have hyp : 0 < (y : Int) + 1 := by omega
        clear hx hK htK
        by_cases h0 : bs.length = 0
        · have hbs : bs = [] := List.length_eq_zero_iff.1 h0
          have hy0 : y = 0 := by have := HFL.out; rw [hbs] at this; simpa using this
          subst hy0
          have hK0 : K = 0 := by omega
          subst hK0
          have e0 : tK bs bs.length = t3 := by unfold tK; rw [if_pos h0]
          have HD3 : Hid (DS w X gd t3 wr) := Lib.hid (by rw [← e0]; exact HDS.out)
          have g1 : decide ((0 : Int) < (bs.length : Int)) = false := by simp; omega
          have g2 : ((bs.length : Int) == 0) = true := by simp; omega
          have g3 : bs.length = 0 := h0
          clear hbs e0 h0
          go_wp2_with fail
          refine (DCut HD3.out nmMine 0 (by decide) (by omega) (by omega)).mono ?_
          rintro e w7 ⟨rfl, -, X7, -, h7⟩
          rw [tw_nocut] at h7 ⊢
          have H7 : Hid (DS w X7 gd t3 w7) := Lib.hid h7
          clear h7 hxx hK' hx1 hx2
          go_wp2_with fail
          refine (PRead_any t3 X7 gd nmOther w7 H7.out.dsk H7.out.well.1.2.1 (by decide) (by have := used_t3; omega)).mono ?_
          rintro e w8 ⟨v, rfl, hown⟩
          rw [tw_read3.1, tw_read3.2.1] at *
          have H8 : Hid (DS w X7 gd (t3) w8) := Lib.hid (H7.out.next hown.1)
          have hst := run_string (P := Try.prog) hown.rep 41 5 9 Try.underlying41 Try.underlying5 Try.underlying9
          obtain ⟨va, vc, rfl⟩ := hown.slice
          replace hst : (convert 41 9 (.slice va 9 vc)).run Try.prog w8 = .ok (.string (strOf bothB)) w8 := hst
          rw [show bothB.length = 9 from rfl]
          have hs2 : ((strOf bothB).toList == [115, 116, 97, 121, 115, 108, 111, 115, 116]) = true := by decide +kernel
          clear hown
          go_wp2_with fail
          refine (PSafe_any t3 X7 gd nmOther w8 H8.out.dsk.1 H8.out.well.1.2.1 (by decide)).mono ?_
          rintro e w9 ⟨rfl, rfl⟩
          rw [tw_read3.2.2]
          clear hst hs2
          go_wp2_with fail
          refine (PFree_any t3 X7 gd w8 H8.out.dsk.1).mono ?_
          rintro e w9 ⟨rfl, rfl⟩
          rw [free_t3]
          go_wp2_with fail
          obtain ⟨a1, a2, a3⟩ := H8.out.names [nmMine] 1 rfl (by decide) 9 rfl
          refine (DSync a1 [nmMine] _ _ (by decide) a2 a3).mono ?_
          rintro e w9 ⟨rfl, -, X9, -, h9⟩
          rw [tw_nosync] at h9 ⊢
          have H9 : Hid (DS w X9 gd (t3) w9) := Lib.hid h9
          clear a1 a2 a3 h9
          go_wp2_with fail
          obtain ⟨a1, a2, a3⟩ := H9.out.ints [keep] 1 rfl (by simp) (by simpa using ⟨HK1.out, HK2.out⟩) 3 rfl
          refine (DCrash a1 [keep] _ _ a2 a3).mono ?_
          rintro e w10 ⟨rfl, -, X10, -, h10⟩
          obtain ⟨q, hq1, hq2, hq3⟩ := tw_crash3 keep
          rw [hq3] at h10
          have H10 : Hid (DS w X10 gd (tC3 q) w10) := Lib.hid h10
          clear a1 a2 a3 h10
          go_wp2_with fail
          refine (PRead_any (tC3 q) X10 gd nmMine w10 H10.out.dsk H10.out.well.1.2.1 (by decide) (by have := used_tC3 q; omega)).mono ?_
          rintro e w11 ⟨v, rfl, hown⟩
          rw [(tw_last3 q).1, (tw_last3 q).2.1] at *
          have H11 : Hid (DS w X10 gd (tC3 q) w11) := Lib.hid (H10.out.next hown.1)
          obtain ⟨va2, vc2, rfl⟩ := hown.slice
          clear hown
          go_wp2_with fail
          refine (PRead_any (tC3 q) X10 gd nmOther w11 H11.out.dsk H11.out.well.1.2.1 (by decide) (by have := used_tC3 q; omega)).mono ?_
          rintro e w12 ⟨v, rfl, hown⟩
          rw [(tw_last3 q).2.2.1, (tw_last3 q).2.2.2] at *
          have H12 : Hid (DS w X10 gd (tC3 q) w12) := Lib.hid (H11.out.next hown.1)
          have hst := fun m => run_string (P := Try.prog) (w := w12.drewN m) (hown.rep.same (fun _ h => h) fun _ _ => rfl) 41 5 9 Try.underlying41 Try.underlying5 Try.underlying9
          obtain ⟨va3, vc3, rfl⟩ := hown.slice
          clear hown
          have hfin : ∀ (q : Nat), 5 ≤ q → q ≤ 9 → ((strOf (bothB.take q)).toList == ((⟨#[115, 116, 97, 121, 115, 108, 111, 115, 116]⟩ : ByteArray).extract 0 q).toList) = true := fun q h1 h2 => by
            rcases (show q = 5 ∨ q = 6 ∨ q = 7 ∨ q = 8 ∨ q = 9 by omega) with rfl | rfl | rfl | rfl | rfl <;> decide +kernel
          have HFIN := Lib.hid (hfin q hq1 hq2)
          have hql : (bothB.take q).length = q := by simp [bothB]; omega
          rw [hql]
          replace hst : ∀ m, (convert 41 9 (.slice va3 q vc3)).run Try.prog (w12.drewN m) = .ok (.string (strOf (bothB.take q))) (w12.drewN m) := fun m => by
            have := hst m
            rw [hql] at this
            exact this
          clear hfin hq3 hql
          have q5 : (5 : Int) ≤ (q : Int) := by omega
          have q9 : q ≤ 9 := hq2
          obtain ⟨sq, hsq⟩ : ∃ sq, sq = strOf (bothB.take q) := ⟨_, rfl⟩
          rw [← hsq] at HFIN
          simp only [← hsq] at hst
          clear hsq
          have hs3 := HFIN.out
          go_wp2_with fail
          go_quiet (fail)
          go_wp2_with fail
          go_ret
          exact ⟨rfl, ⟨H12.out.below.os, H12.out.below.tape, H12.out.below.output, H12.out.below.size, H12.out.below.block⟩⟩

        · have g1 : (0 : Int) < (bs.length : Int) := by omega
          have g2 : ((bs.length : Int) == 0) = false := beq_eq_false_iff_ne.2 (by omega)
          have e0 : tK bs bs.length = tM bs.flatten 0 := by unfold tK; rw [if_neg h0, List.take_length]
          have HDM : Hid (DS w X gd (tM bs.flatten 0) wr) := Lib.hid (by rw [← e0]; exact HDS.out)
          obtain ⟨L, hL⟩ : ∃ L, L = bs.flatten := ⟨_, rfl⟩
          rw [← hL] at HDM HFL
          have hKy : K ≤ y := by omega
          have HCUT : Hid (D.cut (tM L 0) nmMine (K : Int) = (0, tM (L.take K) 0)) := Lib.hid (tw_cut L K (by rw [← HFL.out]; exact hKy))
          obtain ⟨LK, hLK⟩ : ∃ LK, LK = L.take K := ⟨_, rfl⟩
          rw [← hLK] at HCUT
          have hLKl : LK.length = K := by rw [hLK]; simp; have := HFL.out; omega
          have HLK := Lib.hid hLKl
          have hKb : K ≤ 20000 := by omega
          have HKB := Lib.hid hKb
          clear e0 hL hLK hLKl h0
          go_wp2_with fail
          refine (DCut HDM.out nmMine (K : Int) (by decide) (by omega) (by omega)).mono ?_
          rintro e w7 ⟨rfl, -, X7, -, h7⟩
          rw [HCUT.out] at h7 ⊢
          have H7 : Hid (DS w X7 gd (tM LK 0) w7) := Lib.hid h7
          clear h7 hxx hK' hx1 hx2
          go_wp2_with fail
          refine (PRead_any (tM LK 0) X7 gd nmOther w7 H7.out.dsk H7.out.well.1.2.1 (by decide) (by have h1 := used_tM LK 0; have h2 := HLK.out; have h3 := HKB.out; omega)).mono ?_
          rintro e w8 ⟨v, rfl, hown⟩
          rw [(tw_read LK 0).1, (tw_read LK 0).2.1] at *
          have H8 : Hid (DS w X7 gd ((tM LK 0)) w8) := Lib.hid (H7.out.next hown.1)
          have hst := run_string (P := Try.prog) hown.rep 41 5 9 Try.underlying41 Try.underlying5 Try.underlying9
          obtain ⟨va, vc, rfl⟩ := hown.slice
          replace hst : (convert 41 9 (.slice va 9 vc)).run Try.prog w8 = .ok (.string (strOf bothB)) w8 := hst
          rw [show bothB.length = 9 from rfl]
          have hs2 : ((strOf bothB).toList == [115, 116, 97, 121, 115, 108, 111, 115, 116]) = true := by decide +kernel
          clear hown
          go_wp2_with fail
          refine (PSafe_any (tM LK 0) X7 gd nmOther w8 H8.out.dsk.1 H8.out.well.1.2.1 (by decide)).mono ?_
          rintro e w9 ⟨rfl, rfl⟩
          rw [(tw_read LK 0).2.2]
          clear hst hs2
          go_wp2_with fail
          refine (PFree_any (tM LK 0) X7 gd w8 H8.out.dsk.1).mono ?_
          rintro e w9 ⟨rfl, rfl⟩
          rw [free_tM, HLK.out]
          go_wp2_with fail
          obtain ⟨a1, a2, a3⟩ := H8.out.names [nmMine] 1 rfl (by decide) 9 rfl
          refine (DSync a1 [nmMine] _ _ (by decide) a2 a3).mono ?_
          rintro e w9 ⟨rfl, -, X9, -, h9⟩
          rw [tw_sync LK] at h9 ⊢
          have H9 : Hid (DS w X9 gd (tM LK LK.length) w9) := Lib.hid h9
          clear a1 a2 a3 h9
          go_wp2_with fail
          obtain ⟨a1, a2, a3⟩ := H9.out.ints [keep] 1 rfl (by simp) (by simpa using ⟨HK1.out, HK2.out⟩) 3 rfl
          refine (DCrash a1 [keep] _ _ a2 a3).mono ?_
          rintro e w10 ⟨rfl, -, X10, -, h10⟩
          rw [tw_crash] at h10
          have H10 : Hid (DS w X10 gd (tC LK) w10) := Lib.hid h10
          clear a1 a2 a3 h10
          go_wp2_with fail
          refine (PRead_any (tC LK) X10 gd nmMine w10 H10.out.dsk H10.out.well.1.2.1 (by decide) (by have h1 := used_tC LK; have h2 := HLK.out; have h3 := HKB.out; omega)).mono ?_
          rintro e w11 ⟨v, rfl, hown⟩
          rw [(tw_last LK).1, (tw_last LK).2.1] at *
          have H11 : Hid (DS w X10 gd (tC LK) w11) := Lib.hid (H10.out.next hown.1)
          obtain ⟨va2, vc2, rfl⟩ := hown.slice
          rw [HLK.out]
          clear hown
          go_wp2_with fail
          refine (PRead_any (tC LK) X10 gd nmOther w11 H11.out.dsk H11.out.well.1.2.1 (by decide) (by have h1 := used_tC LK; have h2 := HLK.out; have h3 := HKB.out; omega)).mono ?_
          rintro e w12 ⟨v, rfl, hown⟩
          rw [(tw_last LK).2.2.1, (tw_last LK).2.2.2] at *
          have H12 : Hid (DS w X10 gd (tC LK) w12) := Lib.hid (H11.out.next hown.1)
          have hst := fun m => run_string (P := Try.prog) (w := w12.drewN m) (hown.rep.same (fun _ h => h) fun _ _ => rfl) 41 5 9 Try.underlying41 Try.underlying5 Try.underlying9
          obtain ⟨va3, vc3, rfl⟩ := hown.slice
          clear hown
          rw [show stayB.length = 5 from rfl]
          replace hst : ∀ m, (convert 41 9 (.slice va3 5 vc3)).run Try.prog (w12.drewN m) = .ok (.string (strOf stayB)) (w12.drewN m) := hst
          go_wp2_with fail
          have hs3 : ((strOf stayB).toList == ((⟨#[115, 116, 97, 121, 115, 108, 111, 115, 116]⟩ : ByteArray).extract 0 5).toList) = true := by decide +kernel
          go_quiet (fail)
          go_wp2_with fail
          go_ret
          exact ⟨rfl, ⟨H12.out.below.os, H12.out.below.tape, H12.out.below.output, H12.out.below.size, H12.out.below.block⟩⟩

end Go.Proofs.Ytgiipkmkmomofaa.M

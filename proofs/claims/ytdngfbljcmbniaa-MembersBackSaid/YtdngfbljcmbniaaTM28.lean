/- The document's Take: a number at a place. The document's Take of a number. -/
import Derived.Test.YtdngfbljcmbniaaTM26
import Derived.Test.YtdngfbljcmbniaaTM3
import Derived.Deep.LoopGhost
import Derived.Laws.ResultCell
/- Part: MmBe. -/
namespace Go.Proofs.Ytdngfbljcmbniaa.M
open Go.RowKit

/-- What number answers at a place. -/
def RefNumPost (len at_ : Nat) (r : Except Int (Nat × List UInt8)) (w : World) (e : Ending) (w' : World) : Prop :=
  w' = w ∧ match r with
  | .error c => e = .returned (.tuple #[.int .u64 0, .int .i64 (at_ : Int), .int .i64 c])
  | .ok (n, rest) => e = .returned (.tuple #[.int .u64 (n : Int), .int .i64 ((len - rest.length : Nat) : Int), .int .i64 0])

theorem RepB.at2 {w : World} {F : Nat → Prop} {L : List UInt8} {a : Option Addr} {n c : Nat} (h : RepB w F L (.slice a n c)) {i : Nat} (hi : i < L.length) :
    ∃ b off, a = some ⟨b, off, none⟩ ∧ F b ∧ ∀ (j : Nat) (hj : j < L.length), w.cell? ⟨b, off + j, none⟩ = some (.int .u8 (L[j].toNat : Int)) := by
  rcases h with ⟨h, _⟩ | ⟨b, off, c', h, hb, _, _, hc⟩
  · rw [h] at hi; simp at hi
  · cases h
    exact ⟨b, off, rfl, hb, hc⟩

theorem takeNum_codes (L : List UInt8) (c : Int) (h : takeNum L = .error c) : c = 11 ∨ c = 13 := by
  unfold takeNum at h
  split at h
  · cases h; exact .inl rfl
  · split at h
    · cases h; exact .inr rfl
    · split at h
      · cases h; exact .inr rfl
      · split at h
        · cases h; exact .inl rfl
        · cases h

set_option maxRecDepth 20000 in
set_option maxHeartbeats 1600000 in
theorem refNum_any (L : List UInt8) (at_ : Nat) (F : Nat → Prop) (v : Value) (hl : L.length ≤ 1000000) (hat : at_ ≤ L.length) (w : World) (h : RepB w F L v) :
    Calls Try.prog 37 #[v, .int .i64 (at_ : Int)] w (RefNumPost L.length at_ (takeNum (L.drop at_)) w) := by
  obtain ⟨va, vc, rfl, -⟩ := h.slice
  obtain ⟨n, hn⟩ : ∃ n, n = L.length := ⟨_, rfl⟩
  rw [← hn] at hl hat ⊢
  by_cases h0 : at_ < n
  · obtain ⟨c, hc⟩ : ∃ c, c = L[at_]'(by omega) := ⟨_, rfl⟩
    obtain ⟨r, hr⟩ : ∃ r, r = L.drop (at_ + 1) := ⟨_, rfl⟩
    have hdr : L.drop at_ = c :: r := by rw [hc, hr]; exact List.drop_eq_getElem_cons (by omega)
    have hrl : r.length = n - (at_ + 1) := by rw [hr, List.length_drop, hn]
    obtain ⟨b, off, rfl, -, hcell⟩ := h.at2 (i := at_) (by omega)
    have e0 := hcell at_ (by omega)
    rw [← hc] at e0
    have HAT : Hid (∀ i (hi : i < r.length), w.cell? ⟨b, off + (at_ + 1 + i), none⟩ = some (.int .u8 (r[i].toNat : Int))) := Lib.hid fun i hi => by
      have := hcell (at_ + 1 + i) (by omega)
      have e : r[i] = L[at_ + 1 + i]'(by omega) := by simp [hr]
      rw [e]; exact this
    have HDR := Lib.hid hdr
    have HRL := Lib.hid hrl
    obtain ⟨cn, hcn⟩ : ∃ cn : Nat, cn = c.toNat := ⟨_, rfl⟩
    have hcb : cn < 256 := by rw [hcn]; exact c.toNat_lt
    rw [← hcn] at e0
    have HCN := Lib.hid hcn
    have h0' : ¬ (n : Int) ≤ (at_ : Int) := by omega
    have h0'' : (at_ : Int) < (n : Int) := by omega
    obtain ⟨res, hres⟩ : ∃ res, res = takeNum (L.drop at_) := ⟨_, rfl⟩
    have HRES : Hid (res = if 8 < cn then .error 13 else if 0 < cn ∧ r.head? = some 0 then .error 13 else if r.length < cn then .error 11 else .ok (fold256 (r.take cn), r.drop cn)) := Lib.hid (by rw [hres, hdr, hcn]; rfl)
    rw [← hres]
    clear h hn hc hr hdr hrl hcell hcn hres
    by_cases h8 : 8 < cn
    · have h8' : (8 : Int) < (cn : Int) := by omega
      have HR2 : Hid (res = .error 13) := Lib.hid (by rw [HRES.out, if_pos h8])
      clear HRES
      go_enter Try.func37, Try.ntmps37
      go_wp2_with fail
      go_ret3
      rw [HR2.out]
      exact ⟨rfl, rfl⟩
    · have h8' : ¬ (8 : Int) < (cn : Int) := by omega
      go_enter Try.func37, Try.ntmps37
      go_wp2_with fail
      go_loopg [8, 9] cn (fun gk nv iv wr => ∃ k : Nat, k + gk = cn ∧ iv = .int .i64 (k : Int) ∧ nv = .int .u64 ((fold256 (r.take k) : Nat) : Int) ∧ Hid (k ≤ r.length ∧ (0 < k → r.head? ≠ some 0) ∧ wr = w))
      case atStart => exact ⟨0, by omega, rfl, rfl, Lib.hid ⟨by omega, fun h => absurd h (by omega), rfl⟩⟩
      case round =>
        obtain ⟨k, hk, rfl, rfl, HK⟩ := hrel
        have hw := HK.out.2.2
        subst hw
        obtain ⟨f, hf⟩ : ∃ f, f = fold256 (r.take k) := ⟨_, rfl⟩
        have hfb : f < 256 ^ 7 ∨ ¬ k < cn := by
          by_cases hkc : k < cn
          · left
            rw [hf]
            have h1 := fold256_lt (r.take k)
            have h2 : (r.take k).length ≤ 7 := by rw [List.length_take]; omega
            exact Nat.lt_of_lt_of_le h1 (Nat.pow_le_pow_right (by omega) h2)
          · exact .inr hkc
        rw [← hf]
        by_cases hkc : k < cn
        · have hkc2 : (k : Int) < (cn : Int) := by omega
          have hfb2 : (f : Int) < 72057594037927936 := by
            rcases hfb with h | h
            · have : (256 : Nat) ^ 7 = 72057594037927936 := by decide
              omega
            · exact absurd hkc h
          by_cases hrk : k < r.length
          · have hrk2 : ¬ (n : Int) ≤ (at_ : Int) + 1 + (k : Int) := by have := HRL.out; omega
            have hrk3 : (at_ : Int) + 1 + (k : Int) < (n : Int) := by have := HRL.out; omega
            obtain ⟨d, hd⟩ : ∃ d : Nat, d = (r[k]).toNat := ⟨_, rfl⟩
            have hdb : d < 256 := by rw [hd]; exact (r[k]).toNat_lt
            have g0 := HAT.out k hrk
            rw [← hd] at g0
            have HSN : Hid (fold256 (r.take (k + 1)) = f * 256 + d) := Lib.hid (by rw [List.take_succ_eq_append_getElem hrk, fold256_snoc, ← hf, hd])
            obtain ⟨g, hg⟩ : ∃ g : Nat, g = 256 * f := ⟨_, rfl⟩
            obtain ⟨h9, hh9⟩ : ∃ h9 : Nat, h9 = g + d := ⟨_, rfl⟩
            have z2 : 256 * (f : Int) = (g : Int) := by omega
            have z3 : (g : Int) + (d : Int) = (h9 : Int) := by omega
            have hw1 : IntKind.u64.wrap (g : Int) = (g : Int) := by rw [IntKind.wrap_u64]; omega
            have hw2 : IntKind.u64.wrap (h9 : Int) = (h9 : Int) := by rw [IntKind.wrap_u64]; omega
            have hw3 : IntKind.u64.wrap (d : Int) = (d : Int) := by rw [IntKind.wrap_u64]; omega
            have HSN2 : Hid (fold256 (r.take (k + 1)) = h9) := Lib.hid (by rw [HSN.out]; omega)
            clear hg hh9 hfb2
            by_cases hk0 : k = 0
            · subst hk0
              by_cases hd0 : d = 0
              · have q0 : ((d : Int) == 0) = true := by simp [hd0]
                have HR2 : Hid (res = .error 13) := Lib.hid (by
                  have hz : r[0] = 0 := UInt8.toNat_inj.1 (by rw [← hd, hd0]; rfl)
                  have hh : r.head? = some 0 := by rw [List.head?_eq_getElem?, List.getElem?_eq_getElem hrk, hz]
                  rw [HRES.out, if_neg h8, if_pos ⟨by omega, hh⟩])
                clear hf hfb hd HRES
                go_wp2_with fail
                go_ret3
                rw [HR2.out]
                exact ⟨rfl, rfl⟩
              · have q0 : ((d : Int) == 0) = false := by simp; omega
                have HHD : Hid (r.head? ≠ some 0) := Lib.hid (by
                  rw [List.head?_eq_getElem?, List.getElem?_eq_getElem hrk]
                  intro e
                  have e2 := Option.some.inj e
                  rw [e2] at hd
                  exact hd0 hd)
                clear hf hfb hd
                go_wp2_with fail
                go_roundg (cn - (0 + 1))
                case measure => omega
                case rel => exact ⟨1, by omega, by go_num, by rw [HSN2.out], Lib.hid ⟨by omega, fun _ => HHD.out, rfl⟩⟩
            · have q0 : ((k : Int) == 0) = false := by simp; omega
              clear hf hfb hd
              go_wp2_with fail
              go_roundg (cn - (k + 1))
              case measure => omega
              case rel => exact ⟨k + 1, by omega, by go_num, by rw [HSN2.out], Lib.hid ⟨by omega, fun _ => HK.out.2.1 (by omega), rfl⟩⟩
          · have hrk2 : (n : Int) ≤ (at_ : Int) + 1 + (k : Int) := by have := HRL.out; omega
            have HR2 : Hid (res = .error 11) := Lib.hid (by
              have hne : ¬ (0 < cn ∧ r.head? = some 0) := fun h => by
                by_cases hk0 : 0 < k
                · exact HK.out.2.1 hk0 h.2
                · have : r = [] := List.eq_nil_of_length_eq_zero (by omega)
                  rw [this] at h
                  simp at h
              rw [HRES.out, if_neg h8, if_neg hne, if_pos (by omega)])
            clear hf hfb HRES
            go_wp2_with fail
            go_ret3
            rw [HR2.out]
            exact ⟨rfl, rfl⟩
        · have hkc2 : ¬ (k : Int) < (cn : Int) := by omega
          have hkcn : k = cn := by omega
          have HR2 : Hid (res = .ok (f, r.drop cn) ∧ cn ≤ r.length) := Lib.hid (by
            have hne : ¬ (0 < cn ∧ r.head? = some 0) := fun h => HK.out.2.1 (by omega) h.2
            have hle : cn ≤ r.length := by rw [← hkcn]; exact HK.out.1
            rw [HRES.out, if_neg h8, if_neg hne, if_neg (by omega), hf, hkcn]
            exact ⟨rfl, hle⟩)
          have HRL2 : Hid (((n - (r.drop cn).length : Nat) : Int) = (at_ : Int) + 1 + (cn : Int)) := Lib.hid (by
            rw [List.length_drop]
            have := HR2.out.2
            have := HRL.out
            omega)
          clear hf hfb HRES
          go_wp2_with fail
          go_ret3
          rw [HR2.out.1]
          refine ⟨rfl, ?_⟩
          show _ = Ending.returned (.tuple #[.int .u64 (f : Int), .int .i64 ((n - (r.drop cn).length : Nat) : Int), .int .i64 0])
          rw [HRL2.out]
          rfl
  · have h0' : (n : Int) ≤ (at_ : Int) := by omega
    have hr : takeNum (L.drop at_) = .error 11 := by rw [List.drop_of_length_le (by omega)]; rfl
    rw [hr]
    clear h hn hr
    go_enter Try.func37, Try.ntmps37
    go_wp2_with fail
    go_ret3
    exact ⟨rfl, rfl⟩
end Go.Proofs.Ytdngfbljcmbniaa.M

/- Part: MmBf. -/
namespace Go.Proofs.Ytdngfbljcmbniaa.M
open Go.RowKit

theorem results_row_tmp2 {P : Program} {fn : Func} {p u1 u2 : Tmp} {ty : TypeId} (h : fn.results = #[.cell p ty, .tmp u1, .tmp u2]) (tmps : Array Value) (w : World) (g : Nat) (t : TypeId) (cs : Array Value) (fr : Nat × Nat) (d : TypeDesc)
    (hp : tmps.getD p undef = .pointer (some ⟨g, 0, none⟩)) (hg : w.heap[g]? = some (.cells cs t fr))
    (hu : P.underlying ty = some d) (hd : (match d with | .struct _ | .array _ _ => true | _ => false) = true) (hi : (P.info? ty).map (·.size) = some cs.size) (x1 x2 : Value) (hx1 : tmps.getD u1 undef = x1) (hx2 : tmps.getD u2 undef = x2) :
    (results fn tmps).run P w = .ok (.tuple #[.agg cs, x1, x2]) w := by
  subst hx1
  subst hx2
  simp only [results, h]
  simp [Sem.run_bind, Result.andThen, hp, asAddr, run_loadVar_row w g t ty cs fr d hg hu hd hi]
  simp at hp
  simp [hp, asAddr, run_loadVar_row w g t ty cs fr d hg hu hd hi, Result.andThen]

/-- The cells of a value of which nothing but its number is set. -/
def nV (n : Nat) : Array Value := #[.int .u64 (n : Int), .slice none 0 0, .slice none 0 0]

/-- What Take answers of a number. -/
def TkN (len : Nat) (r : Except Int (Nat × List UInt8)) (w : World) (e : Ending) (w' : World) : Prop :=
  Below w.heap.size w w' ∧ match r with
  | .error c => ∃ nx, e = .returned (.tuple #[.agg #[.int .u64 0, .slice none 0 0, .slice none 0 0], .int .i64 nx, .int .i64 c])
  | .ok (n, rest) => e = .returned (.tuple #[.agg (nV n), .int .i64 ((len - rest.length : Nat) : Int), .int .i64 0])

theorem heap_s3 {w : World} {g : Nat} {a b c x y z : Value} {t : TypeId} (h : w.heap[g]? = some (.cells #[a, b, c] t)) :
    (((w.setCell ⟨g, 0, none⟩ x).setCell ⟨g, 1, none⟩ y).setCell ⟨g, 2, none⟩ z).heap[g]? = some (.cells #[x, y, z] t) := by
  simp [World.setCell, Array.getElem?_modify, h]

set_option maxRecDepth 20000 in
set_option maxHeartbeats 1600000 in
theorem RefTakeN_any (s : ByteArray) (hs : s.data.toList = [110]) (L : List UInt8) (at_ : Nat) (F : Nat → Prop) (v : Value) (hl : L.length ≤ 1000000) (hat : at_ ≤ L.length) (w : World) (h : RepB w F L v) (hF : ∀ k, F k → k < w.heap.size) :
    Calls Try.prog 19 #[.string s, v, .int .i64 (at_ : Int)] w (TkN L.length (takeNum (L.drop at_)) w) := by
  have hsz : s.size = 1 := by have := congrArg List.length hs; simpa using this
  have h0 : 0 < s.size := by omega
  have hget : s[0].toNat = 110 := by
    have h1 : s.data.toList[0]? = some 110 := by rw [hs]; rfl
    have h2 : s[0] = 110 := by
      have h3 : s.data[0]? = some 110 := by simpa using h1
      have h4 := Array.getElem?_eq_some_iff.1 h3
      exact h4.2
    rw [h2]; rfl
  have e91 : ((s[0].toNat : Int) == 91) = false := by rw [hget]; rfl
  have e110 : ((s[0].toNat : Int) == 110) = true := by rw [hget]; rfl
  have HNU : Hid (∀ w', Below w.heap.size w w' → Calls Try.prog 37 #[v, .int .i64 (at_ : Int)] w' (RefNumPost L.length at_ (takeNum (L.drop at_)) w')) := Lib.hid fun w' hb => refNum_any L at_ F v hl hat w' (h.same (fun _ h => h) fun k hk => hb.block k (hF k hk))
  obtain ⟨va, vc, rfl, -⟩ := h.slice
  obtain ⟨n, hn⟩ : ∃ n, n = L.length := ⟨_, rfl⟩
  rw [← hn] at HNU ⊢
  have HCO := Lib.hid (takeNum_codes (L.drop at_))
  obtain ⟨res, hres⟩ : ∃ res, res = takeNum (L.drop at_) := ⟨_, rfl⟩
  rw [← hres] at HNU HCO ⊢
  clear h hn hres hs hget hF
  go_enter Try.func19, Try.ntmps19
  go_wp2_with fail
  refine (HNU.out _ ((below_alloc _ _).alloc (by simp) _)).mono ?_
  rintro e w2 ⟨rfl, hr⟩
  cases res with
  | error c =>
    have hc := HCO.out c rfl
    replace hr : e = .returned (.tuple #[.int .u64 0, .int .i64 (at_ : Int), .int .i64 c]) := hr
    subst hr
    have hc0 : ((c != 0) : Bool) = true := by rcases hc with rfl | rfl <;> rfl
    clear hc
    go_wp2_with fail
    exact bodyPost_ret (results_row_tmp2 (P := Try.prog) Try.results19 _ _ w.heap.size 45 #[.int .u64 0, .slice none 0 0, .slice none 0 0] (0, 0) _ rfl (old_alloc (heap_new _ _ _ rfl)) Try.underlying45 rfl (by kernel_rfl) _ _ rfl rfl) rfl ⟨(below_alloc _ _).alloc (by simp) _, _, rfl⟩
  | ok x =>
    obtain ⟨m, rest⟩ := x
    replace hr : e = .returned (.tuple #[.int .u64 (m : Int), .int .i64 ((n - rest.length : Nat) : Int), .int .i64 0]) := hr
    subst hr
    go_wp2_with fail
    exact bodyPost_ret (results_row_tmp2 (P := Try.prog) Try.results19 _ _ w.heap.size 45 #[.int .u64 (m : Int), .slice none 0 0, .slice none 0 0] (0, 0) _ rfl (old_alloc (heap_new _ _ _ rfl)) Try.underlying45 rfl (by kernel_rfl) _ _ rfl rfl) rfl ⟨(below_alloc _ _).alloc (by simp) _, rfl⟩
end Go.Proofs.Ytdngfbljcmbniaa.M

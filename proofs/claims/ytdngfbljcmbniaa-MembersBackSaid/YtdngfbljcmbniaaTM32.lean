/- The document's parts of a row, and whether forms have a byte. The document's Take of a list of numbers. The document's Take of a configuration's shape. echelonref01.Number: a number's form by definition. -/
import Derived.Test.YtdngfbljcmbniaaTM30
import Derived.Test.YtdngfbljcmbniaaTM31
import Derived.Test.YtdngfbljcmbniaaTM26
import Derived.Test.YtdngfbljcmbniaaTM28
import Derived.Deep.LoopGhost
/- Part: RefRows. -/
namespace Go.Proofs.Ytdngfbljcmbniaa.M
open Go.RowKit

theorem infoStr1 : (Try.prog.info? 9).map (fun i => (i.zero, i.size, i.bytes)) = some (some (.string ByteArray.empty), 1, 16) := by kernel_rfl

def strV (t : List UInt8) : Value := .string (strOf t)

/-- Where the parts that are read end. -/
def endOf (ts : List (List UInt8)) (k : Nat) : Nat := 1 + (ts.take k).flatten.length

theorem endOf_next (ts : List (List UInt8)) (k : Nat) (h : k < ts.length) : endOf ts (k + 1) = endOf ts k + ts[k].length := by
  unfold endOf
  rw [List.take_add_one, List.getElem?_eq_getElem h]
  simp only [Option.toList_some, List.flatten_append, List.length_append, List.flatten_cons, List.flatten_nil, List.append_nil]
  omega

theorem row_drop (ts : List (List UInt8)) (k : Nat) (h : k ≤ ts.length) : (91 :: ts.flatten ++ [93]).drop (endOf ts k) = (ts.drop k).flatten ++ [93] := by
  have e : ts.flatten = (ts.take k).flatten ++ (ts.drop k).flatten := by rw [← List.flatten_append, List.take_append_drop]
  unfold endOf
  rw [List.cons_append, Nat.add_comm, List.drop_succ_cons, e, List.append_assoc, List.drop_left]

theorem endOf_le (ts : List (List UInt8)) (k : Nat) (h : k ≤ ts.length) : endOf ts k + 1 ≤ (91 :: ts.flatten ++ [93]).length := by
  have e : ts.flatten = (ts.take k).flatten ++ (ts.drop k).flatten := by rw [← List.flatten_append, List.take_append_drop]
  unfold endOf
  rw [e]
  simp only [List.length_append, List.length_cons, List.length_nil]
  omega

set_option maxRecDepth 20000 in
set_option maxHeartbeats 1600000 in
theorem rows_any (s : ByteArray) (d : Nat) (ts : List (List UInt8)) (l : List Sh) (w : World) (hs : s.size ≤ 64) (ht : s.data.toList = 91 :: ts.flatten ++ [93]) (hf : Fits d ts l) (hd : d ≤ 9) :
    Calls Try.prog 36 #[.string s] w fun e w' => ∃ v, e = .returned v ∧ Below w.heap.size w w' ∧ w'.ownsRow w.heap.size 9 1 v ts.length (ts.map strV) := by
  have HT := Lib.hid ht
  have HF := Lib.hid hf
  have hsz : s.data.toList.length = s.size := by simp
  have hle := fun k h => endOf_le ts k h
  rw [← ht, hsz] at hle
  have HLE := Lib.hid hle
  have HSZ := Lib.hid hsz
  clear ht hf hle hsz
  go_enter Try.func36, Try.ntmps36
  go_wp2_with fail
  go_loopw [3, 4] (fun v i wr => ∃ (k : Nat), i = .int .i64 (endOf ts k : Nat) ∧ k ≤ ts.length ∧ Below w.heap.size w wr ∧ wr.ownsRow w.heap.size 9 1 v k ((ts.take k).map strV)) (fun _ i _ => s.size - (intOf i).toNat)
  case atStart => exact ⟨0, rfl, Nat.zero_le _, Below.refl _ _, World.ownsRow_nil _ _ _ _⟩
  case round =>
    obtain ⟨k, rfl, hk, hB, hown⟩ := hrel
    have hle := HLE.out k hk
    have hget : s.data.toList.drop (endOf ts k) = s[endOf ts k] :: s.data.toList.drop (endOf ts k + 1) := drop_cons s _ hle
    have hdr := row_drop ts k hk
    rw [← HT.out, hget] at hdr
    have HD := Lib.hid hdr
    have HG := Lib.hid hget
    clear hdr hget
    by_cases hk2 : k < ts.length
    · have hkl : k < l.length := by rw [← HF.out.length.1]; exact hk2
      have hE : Exact d ts[k] l[k] := HF.out.get k hk2 hkl
      obtain ⟨c, t', hc, hc93⟩ := hE.head
      have hdk : ts.drop k = ts[k] :: ts.drop (k + 1) := List.drop_eq_getElem_cons hk2
      have hch : s[endOf ts k] = c := by
        have := HD.out
        rw [hdk, List.flatten_cons, hc, List.cons_append, List.cons_append] at this
        exact (List.cons.inj this).1
      have hp : pShape 9 (s.data.toList.drop (endOf ts k)) = some (l[k], (ts.drop (k + 1)).flatten ++ [93]) := by
        rw [HG.out, HD.out, hdk, List.flatten_cons, List.append_assoc]
        exact (hE.ups hd) _
      have hne : ((s[endOf ts k].toNat : Int) != 93) = true := by
        have e := byte_lit s[endOf ts k] 93 (by decide)
        simp only [Int.cast_ofNat_Int] at e
        rw [bne, e, decide_eq_false (by rw [hch]; exact hc93)]
        rfl
      have hrow := row_drop ts (k + 1) hk2
      rw [← HT.out] at hrow
      have hle2 := HLE.out (k + 1) hk2
      have hnx := endOf_next ts k hk2
      have hext : s.extract (endOf ts k) (endOf ts (k + 1)) = strOf ts[k] := by
        have h1 : (s.extract (endOf ts k) (endOf ts (k + 1))).data.toList = ts[k] := by
          rw [ByteArray.data_extract, Array.toList_extract, List.extract_eq_take_drop, HG.out, HD.out, hdk, hnx, Nat.add_sub_cancel_left, List.flatten_cons, List.append_assoc, List.take_left]
        rw [← strOf_data (s.extract (endOf ts k) (endOf ts (k + 1))), h1]
      have hE9 := ends 9 s (endOf ts k) (endOf ts k : Nat) 0 wr rfl hs (by omega) rfl (by omega)
      rw [hp] at hE9
      have hlt9 : endOf ts k < endOf ts (k + 1) := by rw [hnx, hc]; simp
      have HE9 := Lib.hid hE9
      have HX := Lib.hid hext
      have HR := Lib.hid hrow
      have HNX := Lib.hid hnx
      clear hE hc hdk hch hp hE9 hext hrow hnx hc93
      obtain ⟨ip, hip, hip0, hip1, hip2⟩ := info_parts infoStr1
      go_wp2_with fail
      refine HE9.out.mono ?_
      rintro e w1 ⟨rfl, k2, rfl, hk3, hr2⟩
      replace hr2 : (ts.drop (k + 1)).flatten ++ [93] = s.data.toList.drop k2 := hr2
      obtain rfl : k2 = endOf ts (k + 1) := by
        rw [← HR.out] at hr2
        have := congrArg List.length hr2
        rw [List.length_drop, List.length_drop, HSZ.out] at this
        omega
      have hlt1 : endOf ts k ≤ endOf ts (k + 1) := by omega
      clear hr2
      go_wp2_with (at_builtin; go_loud (refine wpList_append_own2 _ rfl _ _ 82 rfl w.heap.size 9 ip (.string ByteArray.empty) 1 16 Try.underlying82 hip hip0 hip1 hip2 rfl (by decide) _ _ _ rfl (hown.alloc _) ⟨wr.heap.size, 0, none⟩ 1 1 [.string (s.extract (endOf ts k) (endOf ts (k + 1)))] rfl rfl ?c1 ?c2 ?c3 ?c4 ?c5 ?_))
      case c1 => intro j u hj; cases j with
        | zero => simp at hj; subst hj; exact cell_of_row _ wr.heap.size 0 _ _ _ (heap_new _ _ _ rfl)
        | succ j => simp at hj
      case c2 => intro u hu; simp at hu; rw [hu]; rfl
      case c3 => unfold maxLen; have := HF.out.length.2; have := HLE.out ts.length (Nat.le_refl _); have := HSZ.out; have h3 := congrArg List.length HT.out; simp only [List.length_append, List.length_cons, List.length_nil] at h3; omega
      case c4 => have := HF.out.length.2; have h3 := congrArg List.length HT.out; have := HSZ.out; simp only [List.length_append, List.length_cons, List.length_nil] at h3; omega
      case c5 => have := hB.size; simp; omega
      intro v' w4 hown2 hg _ hwhere
      have HQ : Hid (Below w.heap.size w w4 ∧ w4.ownsRow w.heap.size 9 1 v' (k + 1) ((ts.take (k + 1)).map strV)) := Lib.hid (by
        refine ⟨(hB.alloc hB.size _).grown hg (by have := hB.size; simp; omega) (fun j hj => (hown.lt j hj).1), ?_⟩
        rw [List.take_add_one, List.getElem?_eq_getElem hk2, List.map_append]
        rw [HX.out] at hown2
        simp only [List.map_take, Option.toList_some, List.map_cons, List.map_nil]
        exact hown2)
      clear hown2 hg hwhere
      go_wp2_with fail
      go_roundw
      case rel => exact ⟨k + 1, rfl, hk2, HQ.out.1, HQ.out.2⟩
      case measure => simp [intOf]; omega
    · obtain rfl : k = ts.length := by omega
      have hne : ((s[endOf ts ts.length].toNat : Int) != 93) = false := by
        have := HD.out
        rw [List.drop_length] at this
        have h9 : s[endOf ts ts.length] = 93 := (List.cons.inj this).1
        rw [h9]; rfl
      go_wp2_with fail
      go_ret
      rw [List.take_length] at hown
      exact ⟨_, rfl, hB, hown⟩

theorem strOf_size (t : List UInt8) : (strOf t).size = t.length := by simp [strOf, ByteArray.size]

theorem flatten_get : ∀ (ts : List (List UInt8)) (i : Nat) (h : i < ts.length), ts[i].length ≤ ts.flatten.length
  | t :: ts, 0, _ => by simp
  | t :: ts, i + 1, h => by
    have := flatten_get ts i (by simpa using h)
    rw [List.flatten_cons, List.length_append]
    simp only [List.getElem_cons_succ]
    omega

theorem solids_take : ∀ (l : List Sh) (k : Nat) (h : k < l.length), solids (l.take (k + 1)) = (solids (l.take k) || solid l[k])
  | s :: l, 0, _ => by simp [solids]
  | s :: l, k + 1, h => by
    have := solids_take l k (by simpa using h)
    simp only [List.take_succ_cons, solids, List.getElem_cons_succ, this, Bool.or_assoc]

theorem solids_of : ∀ (l : List Sh) (k : Nat) (h : k < l.length), solid l[k] = true → solids l = true
  | s :: l, 0, _, hs => by simp only [List.getElem_cons_zero] at hs; simp [solids, hs]
  | s :: l, k + 1, h, hs => by
    have := solids_of l k (by simpa using h) (by simpa using hs)
    simp [solids, this]

/-- A string that stands at a place of an owned row of strings. -/
theorem owned_str {w : World} {base n : Nat} {v : Value} {ts : List (List UInt8)} (h : w.ownsRow base 9 1 v n (ts.map strV)) (hn : n = ts.length) (k : Nat) (hk : k < ts.length) :
    ∃ b c, v = .slice (some ⟨b, 0, none⟩) n c ∧ base ≤ b ∧ b < w.heap.size ∧ w.cell? ⟨b, 0 + k, none⟩ = some (.string (strOf ts[k])) := by
  have h' := h
  obtain ⟨_, ⟨rfl, h0⟩ | ⟨g, cap, cur, hv, hg, _⟩⟩ := h
  · omega
  · have hlt := h'.lt g (by rw [hv]; rfl)
    have hc := h'.cells (g := g) (by rw [hv]; rfl) k (strV ts[k]) (by simp [hk])
    refine ⟨g, cap, hv, hg, hlt.2, ?_⟩
    rw [Nat.zero_add]
    cases k <;> simpa [Addr.add, strV] using hc

def SomeSaid (n : Nat) : Prop := ∀ (s : ByteArray) (d : Nat) (t : List UInt8) (sh : Sh) (w : World), s.size ≤ n → s.size ≤ 64 → s.data.toList = t → Exact d t sh → d ≤ 9 →
  Calls Try.prog 38 #[.string s] w fun e w' => e = .returned (.bool (solid sh)) ∧ Below w.heap.size w w'

set_option maxRecDepth 20000 in
set_option maxHeartbeats 1600000 in
theorem some_of {n : Nat} (ih : ∀ m, m < n → SomeSaid m) : SomeSaid n := by
  rintro s d t sh w hn hs rfl hx hd
  obtain ⟨c, t', hc, hl⟩ := hx.leaf
  have hsz : s.data.toList.length = s.size := by simp
  have h0 : 0 < s.size := by rw [← hsz, hc]; simp
  have hget : s[0] = c := by
    have := drop_cons s 0 h0
    rw [List.drop_zero, hc] at this
    exact (List.cons.inj this).1.symm
  have e91 := byte_lit s[0] 91 (by decide)
  simp only [Int.cast_ofNat_Int] at e91
  cases sh with
  | num =>
    have h1 : ((s[0].toNat : Int) != 91) = true := by rw [bne, e91, decide_eq_false (by rw [hget, hl.1]; decide)]; rfl
    clear hc hsz hget e91 hl
    go_enter Try.func38, Try.ntmps38
    go_wp2_with fail
    go_ret
    exact ⟨rfl, Below.refl _ _⟩
  | blob =>
    have h1 : ((s[0].toNat : Int) != 91) = true := by rw [bne, e91, decide_eq_false (by rw [hget, hl.1]; decide)]; rfl
    clear hc hsz hget e91 hl
    go_enter Try.func38, Try.ntmps38
    go_wp2_with fail
    go_ret
    exact ⟨rfl, Below.refl _ _⟩
  | list s' =>
    have h1 : ((s[0].toNat : Int) != 91) = true := by rw [bne, e91, decide_eq_false (by rw [hget, show c = 42 from hl]; decide)]; rfl
    clear hc hsz hget e91 hl
    go_enter Try.func38, Try.ntmps38
    go_wp2_with fail
    go_ret
    exact ⟨rfl, Below.refl _ _⟩
  | row l =>
    have h1 : ((s[0].toNat : Int) != 91) = false := by rw [bne, e91, decide_eq_true (by rw [hget, show c = 91 from hl]; decide)]; rfl
    obtain ⟨e, ts, rfl, ht, hf⟩ := hx.parts
    have hlen := congrArg List.length ht
    simp only [List.length_append, List.length_cons, List.length_nil] at hlen
    have HROWS := Lib.hid (fun w => rows_any s e ts l w hs ht hf (by omega))
    have HF := Lib.hid hf
    have HSUB : Hid (∀ k (hk : k < ts.length) (hk2 : k < l.length) w, Calls Try.prog 38 #[.string (strOf ts[k])] w fun e w' => e = .returned (.bool (solid l[k])) ∧ Below w.heap.size w w') := Lib.hid (by
      intro k hk hk2 w
      have h2 := flatten_get ts k hk
      exact ih ts[k].length (by omega) (strOf ts[k]) e ts[k] l[k] w (by rw [strOf_size]; omega) (by rw [strOf_size]; omega) (by simp [strOf]) (hf.get k hk hk2) (by omega))
    have HTL : Hid (ts.length = l.length) := Lib.hid hf.length.1
    have hts : ts.length ≤ 64 := by have := hf.length.2; omega
    clear hc hsz hget e91 hl hx ht hf hlen ih
    go_enter Try.func38, Try.ntmps38
    go_wp2_with fail
    refine (HROWS.out _).mono ?_
    rintro e1 w1 ⟨v, rfl, hB, hown⟩
    obtain ⟨a, cp, rfl⟩ := owned_slice hown
    have HO := Lib.hid hown
    clear hown
    go_wp2_with fail
    go_loopw [4] (fun i wr => ∃ k : Nat, i = .int .i64 (k : Int) ∧ k ≤ ts.length ∧ Below w1.heap.size w1 wr ∧ solids (l.take k) = false) (fun i _ => ts.length - (intOf i).toNat)
    case atStart => exact ⟨0, rfl, Nat.zero_le _, Below.refl _ _, rfl⟩
    case round =>
      obtain ⟨k, rfl, hk, hB2, hso⟩ := hrel
      have HSO := Lib.hid hso
      clear hso
      by_cases hk2 : k < ts.length
      · have hkl : k < l.length := by rw [← HTL.out]; exact hk2
        obtain ⟨b, c', hv, hb1, hb2, hcell⟩ := owned_str HO.out rfl k hk2
        cases hv
        have hcell2 : wr.cell? ⟨b, 0 + k, none⟩ = some (.string (strOf ts[k])) := (hB2.cell (p := ⟨b, 0 + k, none⟩) hb2).trans hcell
        rw [Nat.zero_add] at hcell2
        have hkk : (k : Int) < (ts.length : Int) := by omega
        clear hcell
        go_wp2_with fail
        refine (HSUB.out k hk2 hkl _).mono ?_
        rintro e2 w2 ⟨rfl, hB3⟩
        have hB4 : Below w1.heap.size w1 w2 := hB2.trans (hB3.mono hB2.size)
        cases hsk : solid l[k] with
        | true =>
          have HQ : Hid (solids l = true) := Lib.hid (solids_of l k hkl hsk)
          clear hsk
          go_wp2_with fail
          go_ret
          refine ⟨?_, hB.trans (hB4.mono hB.size)⟩
          rw [solid, HQ.out]
          rfl
        | false =>
          have HQ : Hid (solids (l.take (k + 1)) = false) := Lib.hid (by rw [solids_take l k hkl, HSO.out, hsk]; rfl)
          clear hsk
          go_wp2_with fail
          go_roundw
          case rel => exact ⟨k + 1, by go_num, by omega, hB4, HQ.out⟩
          case measure => simp [intOf]; omega
      · have hkk : ¬ (k : Int) < (ts.length : Int) := by omega
        go_wp2_with fail
        go_ret
        refine ⟨?_, hB.trans (hB2.mono hB.size)⟩
        have := HSO.out
        rw [List.take_of_length_le (by rw [← HTL.out]; omega)] at this
        rw [solid, this]
        rfl

theorem Some_sized : ∀ (n : Nat), SomeSaid n := fun n => Nat.strongRecOn n fun _ ih => some_of ih

theorem Some_any (s : ByteArray) (sh : Sh) (w : World) (h : shape s.data.toList = some sh) :
    Calls Try.prog 38 #[.string s] w fun e w' => e = .returned (.bool (solid sh)) ∧ Below w.heap.size w w' := by
  obtain ⟨h1, h2⟩ := exact_shape h
  exact Some_sized s.size s 9 _ sh w (Nat.le_refl _) (by simpa using h2) rfl h1 (by omega)
end Go.Proofs.Ytdngfbljcmbniaa.M

/- Part: MmBg. -/
namespace Go.Proofs.Ytdngfbljcmbniaa.M
open Go.RowKit

def takeNs : Nat → List UInt8 → Except Int (List Nat × List UInt8)
  | 0, b => .ok ([], b)
  | k + 1, b => match takeNum b with
    | .error e => .error e
    | .ok (n, r) => match takeNs k r with
      | .error e => .error e
      | .ok (l, r') => .ok (n :: l, r')

def takeLs (L : List UInt8) : Except Int (List Nat × List UInt8) :=
  match takeNum L with
  | .error e => .error e
  | .ok (n, r) => if r.length < n then .error 11 else takeNs n r

theorem takeNum_rest {b r : List UInt8} {m : Nat} (h : takeNum b = .ok (m, r)) : ∃ j, 0 < j ∧ j ≤ b.length ∧ r = b.drop j := by
  unfold takeNum at h
  split at h
  · cases h
  · rename_i c t
    split at h
    · cases h
    · split at h
      · cases h
      · split at h
        · cases h
        · rename_i h3
          cases h
          exact ⟨c.toNat + 1, by omega, by simp; omega, by simp⟩

theorem takeNum_place {L rest : List UInt8} {a m : Nat} (ha : a ≤ L.length) (h : takeNum (L.drop a) = .ok (m, rest)) : L.length - rest.length ≤ L.length ∧ L.drop (L.length - rest.length) = rest := by
  obtain ⟨j, -, hj, rfl⟩ := takeNum_rest h
  rw [List.length_drop] at hj
  refine ⟨by omega, ?_⟩
  rw [List.drop_drop, List.length_drop]
  congr 1
  omega

theorem takeNum_bound {L rest : List UInt8} {m : Nat} (h : takeNum L = .ok (m, rest)) : m < 18446744073709551616 := by
  unfold takeNum at h
  split at h
  · cases h
  · rename_i c t
    split at h
    · cases h
    · split at h
      · cases h
      · split at h
        · cases h
        · rename_i h8 _ _
          have e := (Prod.mk.inj (Except.ok.inj h)).1
          have h1 := fold256_lt (t.take c.toNat)
          have h2 : (t.take c.toNat).length ≤ 8 := by rw [List.length_take]; omega
          have h3 : fold256 (t.take c.toNat) < 256 ^ 8 := Nat.lt_of_lt_of_le h1 (Nat.pow_le_pow_right (by omega) h2)
          have h4 : fold256 (t.take c.toNat) = m := e
          have h5 : (256 : Nat) ^ 8 = 18446744073709551616 := by decide
          omega

/-- How far the numbers are taken. -/
def Going (res : Except Int (List Nat × List UInt8)) (left : Nat) (ns : List Nat) (rest : List UInt8) : Prop :=
  res = match takeNs left rest with
    | .error e => .error e
    | .ok (l, r') => .ok (ns ++ l, r')

theorem Going.start (k : Nat) (r : List UInt8) : Going (takeNs k r) k [] r := by
  unfold Going
  cases takeNs k r with
  | error e => rfl
  | ok x => rfl

theorem Going.stop {res : Except Int (List Nat × List UInt8)} {left : Nat} {ns : List Nat} {rest : List UInt8} {c : Int} (h : Going res (left + 1) ns rest) (he : takeNum rest = .error c) : res = .error c := by
  unfold Going at h
  rw [h]
  unfold takeNs
  rw [he]

theorem Going.step {res : Except Int (List Nat × List UInt8)} {left m : Nat} {ns : List Nat} {rest r2 : List UInt8} (h : Going res (left + 1) ns rest) (he : takeNum rest = .ok (m, r2)) : Going res left (ns ++ [m]) r2 := by
  unfold Going at h ⊢
  have e : takeNs (left + 1) rest = (match takeNs left r2 with | .error e => .error e | .ok (l, r') => .ok (m :: l, r')) := by simp only [takeNs, he]
  rw [h, e]
  cases takeNs left r2 with
  | error e => rfl
  | ok x => simp

theorem Going.done {res : Except Int (List Nat × List UInt8)} {ns : List Nat} {rest : List UInt8} (h : Going res 0 ns rest) : res = .ok (ns, rest) := by
  unfold Going takeNs at h
  rw [h]
  simp

theorem row3 {w : World} {g : Nat} {a b c : Value} {t : TypeId} (h : w.heap[g]? = some (.cells #[a, b, c] t)) :
    w.cell? ⟨g, 0, none⟩ = some a ∧ w.cell? ⟨g, 1, none⟩ = some b ∧ w.cell? ⟨g, 2, none⟩ = some c ∧ w.frozen? ⟨g, 0, none⟩ = false ∧ w.frozen? ⟨g, 1, none⟩ = false ∧ w.frozen? ⟨g, 2, none⟩ = false ∧ g < w.heap.size :=
  ⟨cell_of_row w g 0 _ t _ h, cell_of_row w g 1 _ t _ h, cell_of_row w g 2 _ t _ h, frozen_of_row w g 0 _ t h, frozen_of_row w g 1 _ t h, frozen_of_row w g 2 _ t h, lt_of_heap h⟩

def nCells (ns : List Nat) : List Value := ns.flatMap fun n => (nV n).toList

theorem infoVal9 : (Try.prog.info? 45).map (fun i => (i.zero, i.size, i.bytes)) = some (some (.agg #[.int .u64 0, .slice none 0 0, .slice none 0 0]), 3, 56) := by kernel_rfl

/-- A row of numbers' values of the call's own. -/
def NRw (base : Nat) (ns : List Nat) (v : Value) (w : World) : Prop := w.ownsRow base 45 3 v ns.length (nCells ns)

/-- What Take answers of a list of numbers. -/
def TkL (len : Nat) (r : Except Int (List Nat × List UInt8)) (w : World) (e : Ending) (w' : World) : Prop :=
  Below w.heap.size w w' ∧ match r with
  | .error c => ∃ nx, (c = 11 ∨ c = 13) ∧ e = .returned (.tuple #[.agg #[.int .u64 0, .slice none 0 0, .slice none 0 0], .int .i64 nx, .int .i64 c])
  | .ok (ns, rest) => ∃ lv, e = .returned (.tuple #[.agg #[.int .u64 0, .slice none 0 0, lv], .int .i64 ((len - rest.length : Nat) : Int), .int .i64 0]) ∧ NRw w.heap.size ns lv w'

/-- The list's box and the result's, as the loop holds them. -/
structure LAt (w : World) (g6 g9 : Nat) (ns : List Nat) (lv : Value) (wr : World) : Prop where
  below : Below w.heap.size w wr
  b6 : wr.heap[g6]? = some (.cells #[.int .u64 0, .slice none 0 0, .slice none 0 0] 45)
  b9 : wr.heap[g9]? = some (.cells #[.int .u64 0, .slice none 0 0, lv] 45)
  row : NRw (g9 + 1) ns lv wr

theorem LAt.next {w wr w1 : World} {g6 g9 : Nat} {ns : List Nat} {lv : Value} (h : LAt w g6 g9 ns lv wr) (hb : Below wr.heap.size wr w1) : LAt w g6 g9 ns lv w1 :=
  ⟨h.below.trans (hb.mono h.below.size), old_below h.b6 hb, old_below h.b9 hb, h.row.kept (row := none) ⟨hb.os, hb.tape, hb.output, hb.size, fun k hk _ => hb.block k hk⟩ (by
    cases ho : lv.ownBlock with
    | none => exact .inl rfl
    | some k => exact .inr (by simp))⟩

theorem nCells_snoc (ns : List Nat) (m : Nat) : nCells (ns ++ [m]) = nCells ns ++ [.int .u64 (m : Int), .slice none 0 0, .slice none 0 0] := by
  simp [nCells, nV]

theorem ownsRow_lower {w : World} {base base' : Nat} {e : TypeId} {size n : Nat} {v : Value} {xs : List Value} (h : w.ownsRow base e size v n xs) (hb : base' ≤ base) : w.ownsRow base' e size v n xs := by
  refine ⟨h.1, ?_⟩
  rcases h.2 with h2 | ⟨g, cap, cur, h1, h3, h4⟩
  · exact .inl h2
  · exact .inr ⟨g, cap, cur, h1, Nat.le_trans hb h3, h4⟩

theorem ownsRow_set3 {w : World} {base g : Nat} {e : TypeId} {size n : Nat} {v x y z : Value} {xs : List Value} (h : w.ownsRow base e size v n xs) (hg : g < base) :
    (((w.setCell ⟨g, 0, none⟩ x).setCell ⟨g, 1, none⟩ y).setCell ⟨g, 2, none⟩ z).ownsRow base e size v n xs :=
  ownsRow_setCell_below (a := ⟨g, 2, none⟩) (ownsRow_setCell_below (a := ⟨g, 1, none⟩) (ownsRow_setCell_below (a := ⟨g, 0, none⟩) h hg _) hg _) hg _

/-- Behind the append, ahead of its store. -/
structure LApp (w : World) (g6 g9 : Nat) (ns : List Nat) (lv v' : Value) (m : Nat) (wr : World) : Prop where
  below : Below w.heap.size w wr
  b6 : wr.heap[g6]? = some (.cells #[.int .u64 0, .slice none 0 0, .slice none 0 0] 45)
  b9 : wr.heap[g9]? = some (.cells #[.int .u64 0, .slice none 0 0, lv] 45)
  row : NRw (g9 + 1) (ns ++ [m]) v' wr

theorem LAt.push {w w4 w5 : World} {g6 g9 m : Nat} {ns : List Nat} {lv v' : Value} {o1 o2 : Obj} {p q r : Value} (h : LAt w g6 g9 ns lv w4) (h6 : w.heap.size ≤ g9) (h69 : g6 < g9 + 1) (hc : [p, q, r] = [.int .u64 (m : Int), .slice none 0 0, .slice none 0 0])
    (hown : w5.ownsRow (g9 + 1) 45 3 v' (ns.length + 1) (nCells ns ++ [p, q, r])) (hg : ((w4.alloc o1).alloc o2).grownBy w5 lv.ownBlock) : LApp w g6 g9 ns lv v' m w5 := by
  have hlt := h.row.lt
  have hz6 := lt_of_heap h.b6
  have hz9 := lt_of_heap h.b9
  have hsz := h.below.size
  have hgs := hg.size
  have hne : ∀ k, k < g9 + 1 → lv.ownBlock ≠ some k := fun k hk e => by have := (hlt k e).1; omega
  have hkeep : ∀ k, k < w4.heap.size → k < g9 + 1 → w5.heap[k]? = w4.heap[k]? := fun k hk hk2 => by
    rw [hg.block k (by simp; omega) (fun e => hne k hk2 e.symm), Below.heap_alloc _ _ _ (by simp; omega), Below.heap_alloc _ _ _ hk]
  simp at hgs
  refine ⟨⟨hg.os.trans h.below.os, hg.tape.trans h.below.tape, hg.output.trans h.below.output, by omega, fun k hk => (hkeep k (by omega) (by omega)).trans (h.below.block k hk)⟩, (hkeep _ hz6 h69).trans h.b6, (hkeep _ hz9 (by omega)).trans h.b9, ?_⟩
  unfold NRw
  rw [nCells_snoc, List.length_append, ← hc]
  exact hown

/-- The store behind the append. -/
theorem LApp.put {w w5 : World} {g6 g9 m : Nat} {ns : List Nat} {lv v' : Value} (h : LApp w g6 g9 ns lv v' m w5) (h6 : w.heap.size ≤ g9) (h69 : g6 ≠ g9) : LAt w g6 g9 (ns ++ [m]) v' (w5.setCell ⟨g9, 2, none⟩ v') :=
  ⟨h.below.setCell h6 _, by simp [World.setCell, Array.getElem?_modify, h69.symm, h.b6], by simp [World.setCell, Array.getElem?_modify, h.b9], ownsRow_setCell_below h.row (by simp) _⟩

set_option maxRecDepth 20000 in
set_option maxHeartbeats 3200000 in
theorem RefTakeL_any (s : ByteArray) (hs : s.data.toList = [42, 110]) (L : List UInt8) (at_ : Nat) (F : Nat → Prop) (v : Value) (hl : L.length ≤ 1000000) (hat : at_ ≤ L.length) (w : World) (h : RepB w F L v) (hF : ∀ k, F k → k < w.heap.size) :
    Calls Try.prog 19 #[.string s, v, .int .i64 (at_ : Int)] w (TkL L.length (takeLs (L.drop at_)) w) := by
  have hsz : s.size = 2 := by have := congrArg List.length hs; simpa using this
  have h0 : 0 < s.size := by omega
  have hget : s[0].toNat = 42 := by
    have h1 : s.data.toList[0]? = some 42 := by rw [hs]; rfl
    have h2 : s[0] = 42 := by
      have h3 : s.data[0]? = some 42 := by simpa using h1
      have h4 := Array.getElem?_eq_some_iff.1 h3
      exact h4.2
    rw [h2]; rfl
  have e91 : ((s[0].toNat : Int) == 91) = false := by rw [hget]; rfl
  have e110 : ((s[0].toNat : Int) == 110) = false := by rw [hget]; rfl
  have e98 : ((s[0].toNat : Int) == 98) = false := by rw [hget]; rfl
  have hsub : (s.extract 1 2).data.toList = [110] := by
    have : (s.extract 1 2).data.toList = (s.data.toList.drop 1).take (2 - 1) := by simp
    rw [this, hs]; rfl
  have HNU : Hid (∀ w', Below w.heap.size w w' → Calls Try.prog 37 #[v, .int .i64 (at_ : Int)] w' (RefNumPost L.length at_ (takeNum (L.drop at_)) w')) := Lib.hid fun w' hb => refNum_any L at_ F v hl hat w' (h.same (fun _ h => h) fun k hk => hb.block k (hF k hk))
  have HTN : Hid (∀ a, a ≤ L.length → ∀ w', Below w.heap.size w w' → Calls Try.prog 19 #[.string (s.extract 1 2), v, .int .i64 (a : Int)] w' (TkN L.length (takeNum (L.drop a)) w')) := Lib.hid fun a ha w' hb => RefTakeN_any (s.extract 1 2) hsub L a F v hl ha w' (h.same (fun _ h => h) fun k hk => hb.block k (hF k hk)) fun k hk => Nat.lt_of_lt_of_le (hF k hk) hb.size
  have HSO : Hid (∀ w', Calls Try.prog 38 #[.string (s.extract 1 2)] w' fun e w'' => e = .returned (.bool true) ∧ Below w'.heap.size w' w'') := Lib.hid fun w' => by
    have hsh : shape (s.extract 1 2).data.toList = some .num := by rw [hsub]; rfl
    exact Some_any (s.extract 1 2) .num w' hsh
  obtain ⟨va, vc, rfl, -⟩ := h.slice
  obtain ⟨n, hn⟩ : ∃ n, n = L.length := ⟨_, rfl⟩
  rw [← hn] at HNU HTN hl hat ⊢
  have HCO := Lib.hid fun a => takeNum_codes (L.drop a)
  have HPL := Lib.hid (fun (a m : Nat) (rest : List UInt8) (ha : a ≤ L.length) => takeNum_place (a := a) (m := m) (rest := rest) ha)
  have HBO := Lib.hid (fun (m : Nat) (rest : List UInt8) => takeNum_bound (L := L.drop at_) (m := m) (rest := rest))
  have HN := Lib.hid hn
  obtain ⟨iv, hiv, hiv0, hiv1, hiv2⟩ := info_parts infoVal9
  obtain ⟨res, hres⟩ : ∃ res, res = takeLs (L.drop at_) := ⟨_, rfl⟩
  have HRES : Hid (res = match takeNum (L.drop at_) with | .error e => .error e | .ok (n, r) => if r.length < n then .error 11 else takeNs n r) := Lib.hid hres
  rw [← hres]
  clear h hn hres hs hget hF hsub
  go_enter Try.func19, Try.ntmps19
  go_wp2_with fail
  refine (HNU.out _ ((below_alloc _ _).alloc (by simp) _)).mono ?_
  rintro e w2 ⟨rfl, hr⟩
  cases hres : takeNum (L.drop at_) with
  | error c =>
    have hc := HCO.out at_ c hres
    rw [hres] at hr
    replace hr : e = .returned (.tuple #[.int .u64 0, .int .i64 (at_ : Int), .int .i64 c]) := hr
    subst hr
    have hc0 : ((c != 0) : Bool) = true := by rcases hc with rfl | rfl <;> rfl
    have HC := Lib.hid hc
    have HR2 : Hid (res = .error c) := Lib.hid (by rw [HRES.out, hres])
    clear hc hres
    go_wp2_with fail
    exact bodyPost_ret (results_row_tmp2 (P := Try.prog) Try.results19 _ _ w.heap.size 45 #[.int .u64 0, .slice none 0 0, .slice none 0 0] (0, 0) _ rfl (old_alloc (heap_new _ _ _ rfl)) Try.underlying45 rfl (by kernel_rfl) _ _ rfl rfl) rfl ⟨(below_alloc _ _).alloc (by simp) _, by rw [HR2.out]; exact ⟨_, HC.out, rfl⟩⟩
  | ok x =>
    obtain ⟨m, rest⟩ := x
    rw [hres] at hr
    replace hr : e = .returned (.tuple #[.int .u64 (m : Int), .int .i64 ((n - rest.length : Nat) : Int), .int .i64 0]) := hr
    subst hr
    obtain ⟨hp1, hp2⟩ := HPL.out at_ m rest (by rw [← HN.out]; exact hat) hres
    rw [← HN.out] at hp1 hp2
    obtain ⟨nx, hnx⟩ : ∃ nx : Nat, nx = n - rest.length := ⟨_, rfl⟩
    rw [← hnx] at hp1 hp2 ⊢
    have hmb := HBO.out m rest hres
    have hrl : rest.length = n - nx := by rw [← hp2, List.length_drop, ← HN.out]
    have HR2 : Hid (res = if rest.length < m then .error 11 else takeNs m rest) := Lib.hid (by rw [HRES.out, hres])
    have HP2 := Lib.hid hp2
    have HRL := Lib.hid hrl
    obtain ⟨df, hdf⟩ : ∃ df : Nat, df = n - nx := ⟨_, rfl⟩
    have z1 : (n : Int) - (nx : Int) = (df : Int) := by omega
    have HDF := Lib.hid hdf
    clear hnx hres hp2 hrl hdf
    go_wp2_with fail
    refine (HSO.out _).mono ?_
    rintro e w3 ⟨rfl, hb3⟩
    have hb2 : Below w.heap.size w ((w.alloc (.cells #[.int .u64 0, .slice none 0 0, .slice none 0 0] 45)).alloc (.cells #[.int .u64 0, .slice none 0 0, .slice none 0 0] 45)) := (below_alloc _ _).alloc (by simp) _
    have HB3 : Hid (Below w.heap.size w w3) := Lib.hid (hb2.trans (hb3.mono hb2.size))
    obtain ⟨g6, hg6⟩ : ∃ g6, g6 = w.heap.size := ⟨_, rfl⟩
    obtain ⟨g9, hg9⟩ : ∃ g9, g9 = g6 + 1 := ⟨_, rfl⟩
    have HX6 : Hid (w3.heap[g6]? = some (.cells #[.int .u64 0, .slice none 0 0, .slice none 0 0] 45)) := Lib.hid (old_below (old_alloc (heap_new _ _ _ hg6)) hb3)
    have HX9 : Hid (w3.heap[g9]? = some (.cells #[.int .u64 0, .slice none 0 0, .slice none 0 0] 45)) := Lib.hid (old_below (heap_new _ _ _ (by rw [hg9, hg6]; simp)) hb3)
    have HG6 := Lib.hid hg6
    have HG9 := Lib.hid hg9
    rw [← hg6, ← hg9]
    obtain ⟨x6a, x6b, x6c, y6a, y6b, y6c, x6z⟩ := row3 HX6.out
    obtain ⟨x9a, x9b, x9c, y9a, y9b, y9c, x9z⟩ := row3 HX9.out
    clear hb3 hb2 hg6 hg9
    by_cases hmd : m ≤ df
    · have hmd2 : ¬ (df : Int) < (m : Int) := by omega
      have HR3 : Hid (res = takeNs m rest) := Lib.hid (by rw [HR2.out, if_neg (by rw [HRL.out, ← HDF.out]; omega)])
      have hw1 : IntKind.i64.wrap (m : Int) = (m : Int) := by rw [IntKind.wrap_i64]; omega
      have HLA : Hid (LAt w g6 g9 [] (.slice none 0 0) w3) := Lib.hid ⟨HB3.out, HX6.out, HX9.out, World.ownsRow_nil _ _ _ _⟩
      clear HR2 HX6 HX9 hmd
      go_wp2_with fail
      go_loopg [2, 19, 20, 21, 22] m (fun gk av iv _ _ _ wr => ∃ (k a : Nat) (ns : List Nat) (lv : Value), k + gk = m ∧ av = .int .i64 (a : Int) ∧ iv = .int .i64 (k : Int) ∧ a ≤ n ∧ Hid (ns.length = k ∧ Going res gk ns (L.drop a) ∧ LAt w g6 g9 ns lv wr))
      case atStart => exact ⟨0, nx, [], .slice none 0 0, by omega, rfl, rfl, by omega, Lib.hid ⟨rfl, by rw [HP2.out, HR3.out]; exact Going.start m rest, HLA.out⟩⟩
      case round =>
        obtain ⟨k, a, ns, lv, hk, rfl, rfl, han, HK⟩ := hrel
        obtain ⟨x6a, x6b, x6c, y6a, y6b, y6c, x6z⟩ := row3 HK.out.2.2.b6
        obtain ⟨x9a, x9b, x9c, y9a, y9b, y9c, x9z⟩ := row3 HK.out.2.2.b9
        by_cases hkm : k < m
        · have hkm2 : (k : Int) < (m : Int) := by omega
          go_wp2_with fail
          refine (HTN.out a han _ HK.out.2.2.below).mono ?_
          rintro e w4 ⟨hb4, hr⟩
          have HL4 : Hid (LAt w g6 g9 ns lv w4) := Lib.hid (HK.out.2.2.next hb4)
          clear hb4 x6a x6b x6c y6a y6b y6c x6z x9a x9b x9c y9a y9b y9c x9z
          obtain ⟨x6a, x6b, x6c, y6a, y6b, y6c, x6z⟩ := row3 HL4.out.b6
          obtain ⟨x9a, x9b, x9c, y9a, y9b, y9c, x9z⟩ := row3 HL4.out.b9
          obtain ⟨gk, rfl⟩ : ∃ g, gk = g + 1 := ⟨gk - 1, by omega⟩
          cases hq : takeNum (L.drop a) with
          | error c =>
            have hc := HCO.out a c hq
            rw [hq] at hr
            obtain ⟨zn, rfl⟩ := hr
            have hc0 : ((c != 0) : Bool) = true := by rcases hc with rfl | rfl <;> rfl
            have HC := Lib.hid hc
            have HR4 : Hid (res = .error c) := Lib.hid (HK.out.2.1.stop hq)
            clear hc hq
            go_wp2_with fail
            refine bodyPost_ret (results_row_tmp2 (P := Try.prog) Try.results19 _ _ g6 45 #[.int .u64 0, .slice none 0 0, .slice none 0 0] (0, 0) _ rfl (old_alloc (heap_s3 HL4.out.b6)) Try.underlying45 rfl (by kernel_rfl) _ _ rfl rfl) rfl ⟨?_, by rw [HR4.out]; exact ⟨_, HC.out, rfl⟩⟩
            have hg : w.heap.size ≤ g6 := by rw [HG6.out]; exact Nat.le_refl _
            exact (((HL4.out.below.setCell hg _).setCell hg _).setCell hg _).alloc (by have := HL4.out.below.size; simpa using this) _
          | ok x =>
            obtain ⟨m2, r2⟩ := x
            obtain ⟨hp1, hp2⟩ := HPL.out a m2 r2 (by rw [← HN.out]; exact han) hq
            rw [← HN.out] at hp1 hp2
            rw [hq] at hr
            replace hr : e = .returned (.tuple #[.agg #[.int .u64 (m2 : Int), .slice none 0 0, .slice none 0 0], .int .i64 ((n - r2.length : Nat) : Int), .int .i64 0]) := hr
            subst hr
            have HG2 : Hid (Going res gk (ns ++ [m2]) r2) := Lib.hid (HK.out.2.1.step hq)
            obtain ⟨nx2, hnx2⟩ : ∃ nx2 : Nat, nx2 = n - r2.length := ⟨_, rfl⟩
            rw [← hnx2] at hp1 hp2 ⊢
            have HP3 := Lib.hid hp2
            clear hnx2 hq hp2
            have hown : w4.ownsRow (g9 + 1) 45 3 lv ns.length (nCells ns) := HL4.out.row
            obtain ⟨la, lc, hlv⟩ := owned_slice hown
            subst hlv
            have hlen : ns.length ≤ 1048576 := by have := HK.out.1; omega
            go_wp2_with (at_builtin; go_loud (refine wpList_append_own2 _ rfl _ _ 43 rfl (g9 + 1) 45 iv (.agg #[.int .u64 0, .slice none 0 0, .slice none 0 0]) 3 56 Try.underlying43 hiv hiv0 hiv1 hiv2 rfl (by decide) _ _ _ rfl ((hown.alloc _).alloc _) ⟨w4.heap.size + 1, 0, none⟩ 1 1 [.int .u64 (m2 : Int), .slice none 0 0, .slice none 0 0] rfl rfl ?c1 ?c2 ?c3 ?c4 ?c5 ?_))
            case c1 => exact three_new (by simp)
            case c2 => intro u hu; simp at hu; rcases hu with rfl | rfl <;> rfl
            case c3 => unfold maxLen; omega
            case c4 => omega
            case c5 => simp; omega
            intro v' w5 hown2 hg5 _ hwhere
            have HL5 : Hid (LApp w g6 g9 ns (.slice la ns.length lc) v' m2 w5) := Lib.hid (HL4.out.push (by rw [HG9.out, HG6.out]; omega) (by rw [HG9.out]; omega) rfl hown2 hg5)
            obtain ⟨a', c', hv'⟩ := owned_slice hown2
            subst hv'
            obtain ⟨z9a, z9b, z9c, t9a, t9b, t9c, z9z⟩ := row3 HL5.out.b9
            clear hg5 hwhere hown
            go_wp2_with fail
            go_roundg gk
            case measure => omega
            case rel => exact ⟨k + 1, nx2, ns ++ [m2], _, by omega, rfl, by go_num, hp1, Lib.hid ⟨by rw [List.length_append, HK.out.1]; rfl, by rw [HP3.out]; exact HG2.out, HL5.out.put (by rw [HG9.out, HG6.out]; omega) (by rw [HG9.out]; omega)⟩⟩
        · have hkm2 : ¬ (k : Int) < (m : Int) := by omega
          have hown : wr.ownsRow (g9 + 1) 45 3 lv ns.length (nCells ns) := HK.out.2.2.row
          obtain ⟨la, lc, hlv⟩ := owned_slice hown
          subst hlv
          clear hown
          have hgk : gk = 0 := by omega
          subst hgk
          have HR4 : Hid (res = .ok (ns, L.drop a)) := Lib.hid HK.out.2.1.done
          have HLD : Hid (n - (L.drop a).length = a) := Lib.hid (by rw [List.length_drop, ← HN.out]; omega)
          go_wp2_with fail
          refine bodyPost_ret (results_row_tmp2 (P := Try.prog) Try.results19 _ _ g6 45 #[.int .u64 0, .slice none 0 0, .slice la ns.length lc] (0, 0) _ rfl (heap_s3 HK.out.2.2.b6) Try.underlying45 rfl (by kernel_rfl) _ _ rfl rfl) rfl ⟨?_, ?_⟩
          · have hg : w.heap.size ≤ g6 := by rw [HG6.out]; exact Nat.le_refl _
            exact ((HK.out.2.2.below.setCell hg _).setCell hg _).setCell hg _
          · rw [HR4.out]
            refine ⟨.slice la ns.length lc, ?_, ?_⟩
            · rw [HLD.out]; rfl
            · have hr := HK.out.2.2.row
              have h6 : g6 < g9 + 1 := by rw [HG9.out]; omega
              exact ownsRow_lower (ownsRow_set3 hr h6) (by rw [HG9.out, HG6.out]; omega)
    · have hmd2 : (df : Int) < (m : Int) := by omega
      have HR3 : Hid (res = .error 11) := Lib.hid (by rw [HR2.out, if_pos (by rw [HRL.out, ← HDF.out]; omega)])
      go_wp2_with fail
      refine bodyPost_ret (results_row_tmp2 (P := Try.prog) Try.results19 _ _ g6 45 #[.int .u64 0, .slice none 0 0, .slice none 0 0] (0, 0) _ rfl (heap_s3 HX6.out) Try.underlying45 rfl (by kernel_rfl) _ _ rfl rfl) rfl ⟨?_, by rw [HR3.out]; exact ⟨_, .inl rfl, rfl⟩⟩
      have hg : w.heap.size ≤ g6 := by rw [HG6.out]; exact Nat.le_refl _
      exact ((HB3.out.setCell hg _).setCell hg _).setCell hg _
end Go.Proofs.Ytdngfbljcmbniaa.M

/- Part: MmBh. -/
namespace Go.Proofs.Ytdngfbljcmbniaa.M
open Go.RowKit

theorem takeNs_rest : ∀ {k : Nat} {b r : List UInt8} {l : List Nat}, takeNs k b = .ok (l, r) → ∃ j, j ≤ b.length ∧ r = b.drop j
  | 0, b, r, l, h => by
    unfold takeNs at h
    cases h
    exact ⟨0, Nat.zero_le _, rfl⟩
  | k + 1, b, r, l, h => by
    unfold takeNs at h
    split at h
    · cases h
    · rename_i n r1 h1
      split at h
      · cases h
      · rename_i l' r' h2
        cases h
        obtain ⟨j, -, hj, rfl⟩ := takeNum_rest h1
        obtain ⟨j2, hj2, rfl⟩ := takeNs_rest h2
        rw [List.length_drop] at hj2
        exact ⟨j + j2, by omega, by rw [List.drop_drop]⟩

theorem takeLs_rest {b r : List UInt8} {l : List Nat} (h : takeLs b = .ok (l, r)) : ∃ j, j ≤ b.length ∧ r = b.drop j := by
  unfold takeLs at h
  split at h
  · cases h
  · rename_i n r1 h1
    split at h
    · cases h
    · obtain ⟨j, -, hj, rfl⟩ := takeNum_rest h1
      obtain ⟨j2, hj2, rfl⟩ := takeNs_rest h
      rw [List.length_drop] at hj2
      exact ⟨j + j2, by omega, by rw [List.drop_drop]⟩

theorem takeLs_place {L rest : List UInt8} {a : Nat} {l : List Nat} (ha : a ≤ L.length) (h : takeLs (L.drop a) = .ok (l, rest)) : L.length - rest.length ≤ L.length ∧ L.drop (L.length - rest.length) = rest := by
  obtain ⟨j, hj, rfl⟩ := takeLs_rest h
  rw [List.length_drop] at hj
  refine ⟨by omega, ?_⟩
  rw [List.drop_drop, List.length_drop]
  congr 1
  omega

/-- Several lists, one behind another. -/
def takeLL : Nat → List UInt8 → Except Int (List (List Nat) × List UInt8)
  | 0, b => .ok ([], b)
  | k + 1, b => match takeLs b with
    | .error e => .error e
    | .ok (n, r) => match takeLL k r with
      | .error e => .error e
      | .ok (l, r') => .ok (n :: l, r')

def GoingL (res : Except Int (List (List Nat) × List UInt8)) (left : Nat) (ns : List (List Nat)) (rest : List UInt8) : Prop :=
  res = match takeLL left rest with
    | .error e => .error e
    | .ok (l, r') => .ok (ns ++ l, r')

theorem GoingL.start (k : Nat) (r : List UInt8) : GoingL (takeLL k r) k [] r := by
  unfold GoingL
  cases takeLL k r with
  | error e => rfl
  | ok x => rfl

theorem GoingL.stop {res : Except Int (List (List Nat) × List UInt8)} {left : Nat} {ns : List (List Nat)} {rest : List UInt8} {c : Int} (h : GoingL res (left + 1) ns rest) (he : takeLs rest = .error c) : res = .error c := by
  unfold GoingL at h
  rw [h]
  unfold takeLL
  rw [he]

theorem GoingL.step {res : Except Int (List (List Nat) × List UInt8)} {left : Nat} {m : List Nat} {ns : List (List Nat)} {rest r2 : List UInt8} (h : GoingL res (left + 1) ns rest) (he : takeLs rest = .ok (m, r2)) : GoingL res left (ns ++ [m]) r2 := by
  unfold GoingL at h ⊢
  have e : takeLL (left + 1) rest = (match takeLL left r2 with | .error e => .error e | .ok (l, r') => .ok (m :: l, r')) := by simp only [takeLL, he]
  rw [h, e]
  cases takeLL left r2 with
  | error e => rfl
  | ok x => simp

theorem GoingL.done {res : Except Int (List (List Nat) × List UInt8)} {ns : List (List Nat)} {rest : List UInt8} (h : GoingL res 0 ns rest) : res = .ok (ns, rest) := by
  unfold GoingL takeLL at h
  rw [h]
  simp

theorem ownsRow_as {w w' : World} {base e size n : Nat} {v : Value} {xs : List Value} (h : w.ownsRow base e size v n xs) (hs : ∀ k, v.ownBlock = some k → w'.heap[k]? = w.heap[k]?) : w'.ownsRow base e size v n xs := by
  obtain ⟨h1, h2 | ⟨g, cap, cur, hv, hg, hcur, h3⟩⟩ := h
  · exact ⟨h1, .inl h2⟩
  · exact ⟨h1, .inr ⟨g, cap, cur, hv, hg, (hs g (by rw [hv]; rfl)).trans hcur, h3⟩⟩

def lCells (vs : List Value) : List Value := vs.flatMap fun v => [.int .u64 0, .slice none 0 0, v]

theorem lCells_snoc (vs : List Value) (v : Value) : lCells (vs ++ [v]) = lCells vs ++ [.int .u64 0, .slice none 0 0, v] := by
  simp [lCells]

/-- Rows of numbers' values, and the row that holds them. -/
def LRw (B : Nat) (ds : List (List Nat)) (vs : List Value) (lv : Value) (w : World) : Prop :=
  ds.length = vs.length ∧ w.ownsRow B 45 3 lv vs.length (lCells vs) ∧ ∀ p ∈ ds.zip vs, NRw B p.1 p.2 w ∧ ∀ k, p.2.ownBlock = some k → lv.ownBlock ≠ some k

theorem LRw.kept {B : Nat} {ds : List (List Nat)} {vs : List Value} {lv : Value} {w w' : World} (h : LRw B ds vs lv w) (hk : ∀ k, B ≤ k → k < w.heap.size → w'.heap[k]? = w.heap[k]?) : LRw B ds vs lv w' := by
  obtain ⟨h1, h2, h3⟩ := h
  refine ⟨h1, ownsRow_as h2 fun k e => hk k (h2.lt k e).1 (h2.lt k e).2, fun p hp => ?_⟩
  obtain ⟨h4, h5⟩ := h3 p hp
  exact ⟨ownsRow_as h4 fun k e => hk k (h4.lt k e).1 (h4.lt k e).2, h5⟩

theorem LRw.lower {B B' : Nat} {ds : List (List Nat)} {vs : List Value} {lv : Value} {w : World} (h : LRw B ds vs lv w) (hb : B' ≤ B) : LRw B' ds vs lv w :=
  ⟨h.1, ownsRow_lower h.2.1 hb, fun p hp => ⟨ownsRow_lower (h.2.2 p hp).1 hb, (h.2.2 p hp).2⟩⟩

theorem LRw.set3 {B g : Nat} {ds : List (List Nat)} {vs : List Value} {lv x y z : Value} {w : World} (h : LRw B ds vs lv w) (hg : g < B) : LRw B ds vs lv (((w.setCell ⟨g, 0, none⟩ x).setCell ⟨g, 1, none⟩ y).setCell ⟨g, 2, none⟩ z) :=
  ⟨h.1, ownsRow_set3 h.2.1 hg, fun p hp => ⟨ownsRow_set3 (h.2.2 p hp).1 hg, (h.2.2 p hp).2⟩⟩

/-- The list's box and the result's, as the loop holds them. -/
structure RAt (w : World) (g6 g9 b B : Nat) (ro : Obj) (ds : List (List Nat)) (vs : List Value) (lv : Value) (wr : World) : Prop where
  below : Below w.heap.size w wr
  b6 : wr.heap[g6]? = some (.cells #[.int .u64 0, .slice none 0 0, .slice none 0 0] 45)
  b9 : wr.heap[g9]? = some (.cells #[.int .u64 0, .slice none 0 0, lv] 45)
  rows : wr.heap[b]? = some ro
  row : LRw B ds vs lv wr

theorem RAt.next {w wr w1 : World} {g6 g9 b B : Nat} {ro : Obj} {ds : List (List Nat)} {vs : List Value} {lv : Value} (h : RAt w g6 g9 b B ro ds vs lv wr) (hb : Below wr.heap.size wr w1) : RAt w g6 g9 b B ro ds vs lv w1 :=
  ⟨h.below.trans (hb.mono h.below.size), old_below h.b6 hb, old_below h.b9 hb, old_below h.rows hb, h.row.kept fun k _ hk => hb.block k hk⟩

structure RApp (w : World) (g6 g9 b B : Nat) (ro : Obj) (ds : List (List Nat)) (vs : List Value) (lv v' : Value) (wr : World) : Prop where
  below : Below w.heap.size w wr
  b6 : wr.heap[g6]? = some (.cells #[.int .u64 0, .slice none 0 0, .slice none 0 0] 45)
  b9 : wr.heap[g9]? = some (.cells #[.int .u64 0, .slice none 0 0, lv] 45)
  rows : wr.heap[b]? = some ro
  row : LRw B ds vs v' wr

theorem RAt.push {w w3 w4 w5 : World} {g6 g9 b B : Nat} {ro : Obj} {ds : List (List Nat)} {vs : List Value} {lv v' : Value} {d : List Nat} {v : Value} {o1 o2 : Obj} {p q r : Value}
    (h3 : RAt w g6 g9 b B ro ds vs lv w3) (h : RAt w g6 g9 b B ro ds vs lv w4) (h6 : w.heap.size ≤ B) (hg6 : g6 < B) (hg9 : g9 < B) (hb : b < B) (hB : B ≤ w3.heap.size) (hd : NRw w3.heap.size d v w4)
    (hc : [p, q, r] = [.int .u64 0, .slice none 0 0, v])
    (hown : w5.ownsRow B 45 3 v' (vs.length + 1) (lCells vs ++ [p, q, r])) (hg : ((w4.alloc o1).alloc o2).grownBy w5 lv.ownBlock)
    (hw : v'.ownBlock = lv.ownBlock ∨ v'.ownBlock = some ((w4.alloc o1).alloc o2).heap.size) : RApp w g6 g9 b B ro (ds ++ [d]) (vs ++ [v]) lv v' w5 := by
  obtain ⟨hl, hrow, hkids⟩ := h.row
  have hlt := hrow.lt
  have hlt3 := h3.row.2.1.lt
  have hz6 := lt_of_heap h.b6
  have hz9 := lt_of_heap h.b9
  have hzb := lt_of_heap h.rows
  have hsz := h.below.size
  have hgs := hg.size
  simp at hgs hw
  have hkeep : ∀ k, k < w4.heap.size → lv.ownBlock ≠ some k → w5.heap[k]? = w4.heap[k]? := fun k hk hne => by
    rw [hg.block k (by simp; omega) (fun e => hne e.symm), Below.heap_alloc _ _ _ (by simp; omega), Below.heap_alloc _ _ _ hk]
  have hne : ∀ k, k < B → lv.ownBlock ≠ some k := fun k hk e => by have := (hlt k e).1; omega
  have hnew : ∀ k, k < w4.heap.size → lv.ownBlock ≠ some k → v'.ownBlock ≠ some k := fun k hk hn e => by
    rcases hw with h5 | h5
    · exact hn (h5.symm.trans e)
    · rw [e] at h5; simp at h5; omega
  refine ⟨⟨hg.os.trans h.below.os, hg.tape.trans h.below.tape, hg.output.trans h.below.output, by omega, fun k hk => (hkeep k (by omega) (hne k (by omega))).trans (h.below.block k hk)⟩, (hkeep _ hz6 (hne _ hg6)).trans h.b6, (hkeep _ hz9 (hne _ hg9)).trans h.b9, (hkeep _ hzb (hne _ hb)).trans h.rows, ?_⟩
  refine ⟨by simp [hl], by rw [lCells_snoc, List.length_append, ← hc]; exact hown, fun x hx => ?_⟩
  rw [List.zip_append hl] at hx
  rcases List.mem_append.1 hx with hx | hx
  · obtain ⟨h4, h5⟩ := hkids x hx
    exact ⟨ownsRow_as h4 fun k e => hkeep k (h4.lt k e).2 (h5 k e), fun k e => hnew k (h4.lt k e).2 (h5 k e)⟩
  · simp at hx
    subst hx
    have hn : ∀ k, v.ownBlock = some k → lv.ownBlock ≠ some k := fun k e e2 => by
      have h1 := (hd.lt k e).1
      have h2 := (hlt3 k e2).2
      omega
    exact ⟨ownsRow_lower (ownsRow_as hd fun k e => hkeep k (hd.lt k e).2 (hn k e)) hB, fun k e => hnew k (hd.lt k e).2 (hn k e)⟩

theorem RApp.put {w w5 : World} {g6 g9 b B : Nat} {ro : Obj} {ds : List (List Nat)} {vs : List Value} {lv v' : Value} (h : RApp w g6 g9 b B ro ds vs lv v' w5) (h6 : w.heap.size ≤ g9) (h69 : g6 ≠ g9) (hb : b ≠ g9) (hg9 : g9 < B) : RAt w g6 g9 b B ro ds vs v' (w5.setCell ⟨g9, 2, none⟩ v') :=
  ⟨h.below.setCell h6 _, by simp [World.setCell, Array.getElem?_modify, h69.symm, h.b6], by simp [World.setCell, Array.getElem?_modify, h.b9], by simp [World.setCell, Array.getElem?_modify, hb.symm, h.rows], h.row.kept fun k hk _ => by
    have : g9 ≠ k := by omega
    simp [World.setCell, Array.getElem?_modify, this]⟩

/-- What Take answers of a configuration's shape. -/
def TkC (len : Nat) (r : Except Int (List (List Nat) × List UInt8)) (w : World) (e : Ending) (w' : World) : Prop :=
  Below w.heap.size w w' ∧ match r with
  | .error c => ∃ nx, (c = 11 ∨ c = 13) ∧ e = .returned (.tuple #[.agg #[.int .u64 0, .slice none 0 0, .slice none 0 0], .int .i64 nx, .int .i64 c])
  | .ok (ds, rest) => ∃ lv vs, e = .returned (.tuple #[.agg #[.int .u64 0, .slice none 0 0, lv], .int .i64 ((len - rest.length : Nat) : Int), .int .i64 0]) ∧ LRw w.heap.size ds vs lv w'

theorem fits_conf : Fits 2 [[42, 110], [42, 110]] [.list .num, .list .num] := by
  refine ⟨_, _, rfl, fun r => ?_, _, _, rfl, fun r => ?_, rfl⟩ <;> rfl

set_option maxRecDepth 20000 in
set_option maxHeartbeats 3200000 in
theorem RefTakeC_any (s : ByteArray) (hs : s.data.toList = [91, 42, 110, 42, 110, 93]) (L : List UInt8) (at_ : Nat) (F : Nat → Prop) (v : Value) (hl : L.length ≤ 1000000) (hat : at_ ≤ L.length) (w : World) (h : RepB w F L v) (hF : ∀ k, F k → k < w.heap.size) :
    Calls Try.prog 19 #[.string s, v, .int .i64 (at_ : Int)] w (TkC L.length (takeLL 2 (L.drop at_)) w) := by
  have hsz : s.size = 6 := by have := congrArg List.length hs; simpa using this
  have h0 : 0 < s.size := by omega
  have hget : s[0].toNat = 91 := by
    have h1 : s.data.toList[0]? = some 91 := by rw [hs]; rfl
    have h2 : s[0] = 91 := by
      have h3 : s.data[0]? = some 91 := by simpa using h1
      have h4 := Array.getElem?_eq_some_iff.1 h3
      exact h4.2
    rw [h2]; rfl
  have e91 : ((s[0].toNat : Int) == 91) = true := by rw [hget]; rfl
  have HTN : Hid (∀ a, a ≤ L.length → ∀ w', Below w.heap.size w w' → Calls Try.prog 19 #[.string (strOf [42, 110]), v, .int .i64 (a : Int)] w' (TkL L.length (takeLs (L.drop a)) w')) := Lib.hid fun a ha w' hb => RefTakeL_any (strOf [42, 110]) (by simp [strOf]) L a F v hl ha w' (h.same (fun _ h => h) fun k hk => hb.block k (hF k hk)) fun k hk => Nat.lt_of_lt_of_le (hF k hk) hb.size
  have HRO : Hid (∀ w', Calls Try.prog 36 #[.string s] w' fun e w'' => ∃ v, e = .returned v ∧ Below w'.heap.size w' w'' ∧ w''.ownsRow w'.heap.size 9 1 v 2 ([[42, 110], [42, 110]].map strV)) := Lib.hid fun w' =>
    rows_any s 2 [[42, 110], [42, 110]] [.list .num, .list .num] w' (by omega) (by rw [hs]; rfl) fits_conf (by omega)
  obtain ⟨va, vc, rfl, -⟩ := h.slice
  obtain ⟨n, hn⟩ : ∃ n, n = L.length := ⟨_, rfl⟩
  rw [← hn] at HTN hl hat ⊢
  have HPL := Lib.hid (fun (a : Nat) (m : List Nat) (rest : List UInt8) (ha : a ≤ L.length) => takeLs_place (a := a) (l := m) (rest := rest) ha)
  have HN := Lib.hid hn
  obtain ⟨iv, hiv, hiv0, hiv1, hiv2⟩ := info_parts infoVal9
  obtain ⟨res, hres⟩ : ∃ res, res = takeLL 2 (L.drop at_) := ⟨_, rfl⟩
  have HRES := Lib.hid hres
  rw [← hres]
  clear h hn hres hs hget hF
  go_enter Try.func19, Try.ntmps19
  go_wp2_with fail
  refine (HRO.out _).mono ?_
  rintro e w3 ⟨rv, rfl, hb3, hro⟩
  have hb2 : Below w.heap.size w ((w.alloc (.cells #[.int .u64 0, .slice none 0 0, .slice none 0 0] 45)).alloc (.cells #[.int .u64 0, .slice none 0 0, .slice none 0 0] 45)) := (below_alloc _ _).alloc (by simp) _
  have HB3 : Hid (Below w.heap.size w w3) := Lib.hid (hb2.trans (hb3.mono hb2.size))
  obtain ⟨g6, hg6⟩ : ∃ g6, g6 = w.heap.size := ⟨_, rfl⟩
  obtain ⟨g9, hg9⟩ : ∃ g9, g9 = g6 + 1 := ⟨_, rfl⟩
  have HX6 : Hid (w3.heap[g6]? = some (.cells #[.int .u64 0, .slice none 0 0, .slice none 0 0] 45)) := Lib.hid (old_below (old_alloc (heap_new _ _ _ hg6)) hb3)
  have HX9 : Hid (w3.heap[g9]? = some (.cells #[.int .u64 0, .slice none 0 0, .slice none 0 0] 45)) := Lib.hid (old_below (heap_new _ _ _ (by rw [hg9, hg6]; simp)) hb3)
  have HG6 := Lib.hid hg6
  have HG9 := Lib.hid hg9
  obtain ⟨-, ⟨-, hcon⟩ | ⟨b, cap, cur, rfl, hbb, hcur, -, -, -, htk⟩⟩ := hro
  · exact absurd hcon (by decide)
  have hbz := lt_of_heap hcur
  have hb6 : g6 < w3.heap.size := lt_of_heap HX6.out
  have hb9 : g9 < w3.heap.size := lt_of_heap HX9.out
  have hbne : g9 + 1 ≤ b := by
    have : w.heap.size + 2 ≤ b := by simpa using hbb
    omega
  have HSV : Hid (∀ k, k < 2 → cur[k]? = some (.string (strOf [42, 110]))) := Lib.hid fun k hk => by
    have h1 : (cur.toList.take 2)[k]? = some (strV [42, 110]) := by
      rw [show cur.toList.take 2 = [[42, 110], [42, 110]].map strV from htk]
      match k, hk with
      | 0, _ => rfl
      | 1, _ => rfl
    rw [List.getElem?_take_of_lt hk] at h1
    simpa [strV] using h1
  have HRA : Hid (RAt w g6 g9 b w3.heap.size (.cells cur 9) [] [] (.slice none 0 0) w3) := Lib.hid ⟨HB3.out, HX6.out, HX9.out, hcur, rfl, World.ownsRow_nil _ _ _ _, fun _ h => by simp at h⟩
  have HBS : Hid (w.heap.size ≤ w3.heap.size) := Lib.hid HB3.out.size
  obtain ⟨B, hB⟩ : ∃ B, B = w3.heap.size := ⟨_, rfl⟩
  rw [← hB] at HRA HBS hbz hb6 hb9
  obtain ⟨ro, hro⟩ : ∃ ro, ro = Obj.cells cur 9 := ⟨_, rfl⟩
  rw [← hro] at HRA
  have HRO2 := Lib.hid hro
  rw [← hg6, ← hg9]
  have HB := Lib.hid hB
  clear hcur htk hB hro HRO HX6 HX9 hbb hb3 hb2 hg6 hg9
  go_wp2_with fail
  go_loopg [2, 11, 12, 13, 14] 2 (fun gk av iv _ _ _ wr => ∃ (k a : Nat) (ds : List (List Nat)) (vs : List Value) (lv : Value), k + gk = 2 ∧ av = .int .i64 (a : Int) ∧ iv = .int .i64 (k : Int) ∧ a ≤ n ∧ Hid (vs.length = k ∧ GoingL res gk ds (L.drop a) ∧ RAt w g6 g9 b B ro ds vs lv wr ∧ B ≤ wr.heap.size))
  case atStart => exact ⟨0, at_, [], [], .slice none 0 0, by omega, rfl, rfl, hat, Lib.hid ⟨rfl, by rw [HRES.out]; exact GoingL.start 2 _, HRA.out, by rw [HB.out]; exact Nat.le_refl _⟩⟩
  case round =>
    obtain ⟨k, a, ds, vs, lv, hk, rfl, rfl, han, HK⟩ := hrel
    obtain ⟨x6a, x6b, x6c, y6a, y6b, y6c, x6z⟩ := row3 HK.out.2.2.1.b6
    obtain ⟨x9a, x9b, x9c, y9a, y9b, y9c, x9z⟩ := row3 HK.out.2.2.1.b9
    have hown : wr.ownsRow B 45 3 lv vs.length (lCells vs) := HK.out.2.2.1.row.2.1
    obtain ⟨la, lc, hlv⟩ := owned_slice hown
    subst hlv
    clear hown
    by_cases hkm : k < 2
    · have hkm2 : (k : Int) < 2 := by omega
      have hcell : wr.cell? ⟨b, k, none⟩ = some (.string (strOf [42, 110])) := by
        have h1 := HK.out.2.2.1.rows
        rw [HRO2.out] at h1
        exact (cell_of_row _ _ _ _ _ _ h1).trans (HSV.out k hkm)
      go_wp2_with fail
      refine (HTN.out a han _ HK.out.2.2.1.below).mono ?_
      rintro e w4 ⟨hb4, hr⟩
      have HL4 : Hid (RAt w g6 g9 b B ro ds vs (.slice la vs.length lc) w4) := Lib.hid (HK.out.2.2.1.next hb4)
      have HZ4 : Hid (wr.heap.size ≤ w4.heap.size) := Lib.hid hb4.size
      clear hb4 hcell x6a x6b x6c y6a y6b y6c x6z x9a x9b x9c y9a y9b y9c x9z
      obtain ⟨x6a, x6b, x6c, y6a, y6b, y6c, x6z⟩ := row3 HL4.out.b6
      obtain ⟨x9a, x9b, x9c, y9a, y9b, y9c, x9z⟩ := row3 HL4.out.b9
      obtain ⟨gk, rfl⟩ : ∃ g, gk = g + 1 := ⟨gk - 1, by omega⟩
      cases hq : takeLs (L.drop a) with
      | error c =>
        rw [hq] at hr
        obtain ⟨zn, hc, rfl⟩ := hr
        have hc0 : ((c != 0) : Bool) = true := by rcases hc with rfl | rfl <;> rfl
        have HC := Lib.hid hc
        have HR4 : Hid (res = .error c) := Lib.hid (HK.out.2.1.stop hq)
        clear hc hq
        go_wp2_with fail
        refine bodyPost_ret (results_row_tmp2 (P := Try.prog) Try.results19 _ _ g6 45 #[.int .u64 0, .slice none 0 0, .slice none 0 0] (0, 0) _ rfl (old_alloc (heap_s3 HL4.out.b6)) Try.underlying45 rfl (by kernel_rfl) _ _ rfl rfl) rfl ⟨?_, by rw [HR4.out]; exact ⟨_, HC.out, rfl⟩⟩
        have hg : w.heap.size ≤ g6 := by rw [HG6.out]; exact Nat.le_refl _
        exact (((HL4.out.below.setCell hg _).setCell hg _).setCell hg _).alloc (by have := HL4.out.below.size; simpa using this) _
      | ok x =>
        obtain ⟨d, r2⟩ := x
        obtain ⟨hp1, hp2⟩ := HPL.out a d r2 (by rw [← HN.out]; exact han) hq
        rw [← HN.out] at hp1 hp2
        rw [hq] at hr
        obtain ⟨ev, rfl, hev⟩ := hr
        have HEV : Hid (NRw wr.heap.size d ev w4) := Lib.hid hev
        obtain ⟨ea, ec, hev2⟩ := owned_slice hev
        subst hev2
        have HG2 : Hid (GoingL res gk (ds ++ [d]) r2) := Lib.hid (HK.out.2.1.step hq)
        obtain ⟨nx2, hnx2⟩ : ∃ nx2 : Nat, nx2 = n - r2.length := ⟨_, rfl⟩
        rw [← hnx2] at hp1 hp2 ⊢
        have HP3 := Lib.hid hp2
        clear hnx2 hq hp2 hev
        have hown : w4.ownsRow B 45 3 (.slice la vs.length lc) vs.length (lCells vs) := HL4.out.row.2.1
        have hlen : vs.length ≤ 2 := by have := HK.out.1; omega
        have hBz : B ≤ w4.heap.size := Nat.le_trans HK.out.2.2.2 HZ4.out
        go_wp2_with (at_builtin; go_loud (refine wpList_append_own2 _ rfl _ _ 43 rfl B 45 iv (.agg #[.int .u64 0, .slice none 0 0, .slice none 0 0]) 3 56 Try.underlying43 hiv hiv0 hiv1 hiv2 rfl (by decide) _ _ _ rfl ((hown.alloc _).alloc _) ⟨w4.heap.size + 1, 0, none⟩ 1 1 [.int .u64 0, .slice none 0 0, .slice ea d.length ec] rfl rfl ?c1 ?c2 ?c3 ?c4 ?c5 ?_))
        case c1 => exact three_new (by simp)
        case c2 => intro u hu; simp at hu; rcases hu with rfl | rfl | rfl <;> rfl
        case c3 => unfold maxLen; omega
        case c4 => omega
        case c5 => simp; omega
        intro v' w5 hown2 hg5 _ hwhere
        have HL5 : Hid (RApp w g6 g9 b B ro (ds ++ [d]) (vs ++ [.slice ea d.length ec]) (.slice la vs.length lc) v' w5) := Lib.hid (HK.out.2.2.1.push HL4.out HBS.out hb6 hb9 hbz HK.out.2.2.2 HEV.out rfl hown2 hg5 (by simpa using hwhere))
        have HZ5 : Hid (B ≤ w5.heap.size) := Lib.hid (by have := hg5.size; simp at this; omega)
        obtain ⟨a', c', hv'⟩ := owned_slice hown2
        subst hv'
        obtain ⟨z9a, z9b, z9c, t9a, t9b, t9c, z9z⟩ := row3 HL5.out.b9
        clear hg5 hwhere hown
        go_wp2_with fail
        go_roundg gk
        case measure => omega
        case rel => exact ⟨k + 1, nx2, ds ++ [d], vs ++ [.slice ea d.length ec], _, by omega, rfl, by go_num, hp1, Lib.hid ⟨by rw [List.length_append, HK.out.1]; rfl, by rw [HP3.out]; exact HG2.out, HL5.out.put (by rw [HG9.out, HG6.out]; omega) (by rw [HG9.out]; omega) (by omega) hb9, by simpa using HZ5.out⟩⟩
    · have hkm2 : ¬ (k : Int) < 2 := by omega
      have hgk : gk = 0 := by omega
      subst hgk
      have HR4 : Hid (res = .ok (ds, L.drop a)) := Lib.hid HK.out.2.1.done
      have HLD : Hid (n - (L.drop a).length = a) := Lib.hid (by rw [List.length_drop, ← HN.out]; omega)
      go_wp2_with fail
      refine bodyPost_ret (results_row_tmp2 (P := Try.prog) Try.results19 _ _ g6 45 #[.int .u64 0, .slice none 0 0, .slice la vs.length lc] (0, 0) _ rfl (heap_s3 HK.out.2.2.1.b6) Try.underlying45 rfl (by kernel_rfl) _ _ rfl rfl) rfl ⟨?_, ?_⟩
      · have hg : w.heap.size ≤ g6 := by rw [HG6.out]; exact Nat.le_refl _
        exact ((HK.out.2.2.1.below.setCell hg _).setCell hg _).setCell hg _
      · rw [HR4.out]
        refine ⟨.slice la vs.length lc, vs, ?_, ?_⟩
        · rw [HLD.out]; rfl
        · have hr := HK.out.2.2.1.row
          exact (hr.set3 hb6).lower HBS.out
end Go.Proofs.Ytdngfbljcmbniaa.M

/- Part: RefNumber. -/
namespace Go.Proofs.Ytdngfbljcmbniaa.M
open Go.RowKit

theorem dig_zero (k : Nat) : dig k 0 = [] := by cases k <;> simp [dig]

/-- One digit more is taken off. -/
theorem dig_next {f n : Nat} {Ls D : List UInt8} (h : D = dig (f + 1) n ++ Ls.reverse) (hn : n ≠ 0) : D = dig f (n / 256) ++ (Ls ++ [UInt8.ofNat (n % 256)]).reverse := by
  rw [h, dig, if_neg hn]
  simp

theorem rev_take {Ls : List UInt8} {j : Nat} (h0 : 0 < j) (h : j ≤ Ls.length) :
    Ls.reverse.take (Ls.length - (j - 1)) = Ls.reverse.take (Ls.length - j) ++ [Ls[j - 1]'(by omega)] := by
  rw [show Ls.length - (j - 1) = Ls.length - j + 1 from by omega, List.take_add_one, List.getElem?_reverse (by omega), show Ls.length - 1 - (Ls.length - j) = j - 1 from by omega, List.getElem?_eq_getElem (by omega)]
  rfl

set_option maxRecDepth 20000 in
set_option maxHeartbeats 1600000 in
theorem Number_any (N : Nat) (w : World) (hN : Hid (N < 18446744073709551616)) :
    Calls Try.prog 22 #[.int .u64 (N : Int)] w fun e w' => ∃ v, e = .returned v ∧ Below w.heap.size w w' ∧ w'.ownsRow w.heap.size 5 1 v (num N).length ((num N).map byteV) := by
  obtain ⟨ib, hib, hib0, hib1, hib2⟩ := info_parts infoByte
  have hs : ∃ n : Nat, n = N := ⟨N, rfl⟩
  have HST : Hid (N < 256 ^ 8) := Lib.hid hN.out
  rw [show num N = UInt8.ofNat (dig 8 N).length :: dig 8 N from rfl]
  have HDS : Hid (dig 8 N = dig 8 N ++ [].reverse) := Lib.hid (by simp)
  clear hs hN
  go_enter Try.func22, Try.ntmps22
  go_wp2_with fail
  go_loopw [0, 3] (fun x lo wr => ∃ (n : Nat) (Ls : List UInt8) (v : Value), x = .int .u64 (n : Int) ∧ lo = v ∧ Ls.length ≤ 8 ∧ Hid (dig 8 N = dig (8 - Ls.length) n ++ Ls.reverse ∧ n < 256 ^ (8 - Ls.length)) ∧
      Acc w w.heap.size (.slice none 0 0) wr v Ls) (fun x _ _ => (intOf x).toNat)
  case atStart => exact ⟨N, [], _, rfl, rfl, by simp, Lib.hid ⟨HDS.out, HST.out⟩, Acc.start (L := []) (World.ownsRow_nil _ _ _ _)⟩
  case round =>
    obtain ⟨n, Ls, v, rfl, rfl, hl8, HI, hacc⟩ := hrel
    by_cases hn0 : 0 < n
    · have hl7 : Ls.length < 8 := by
        rcases Nat.lt_or_ge Ls.length 8 with h | h
        · exact h
        · have := HI.out.2
          rw [show 8 - Ls.length = 0 from by omega] at this
          omega
      obtain ⟨a, c, rfl⟩ := owned_slice hacc.1
      have hnn : (0 : Int) < (n : Int) := by omega
      have hsz := hacc.2.1.size
      have HA := Lib.hid hacc
      clear hacc
      go_wp2_with (at_builtin; refine wpList_append_own2 _ rfl _ _ 22 rfl w.heap.size 5 ib (.int .u8 0) 1 1 Try.underlying22 hib hib0 hib1 hib2 rfl (by decide) _ _ _ rfl (HA.out.1.alloc _) ⟨wr.heap.size, 0, none⟩ 1 1 [.int .u8 ((n : Int) % 256)] rfl rfl ?c1 ?c2 ?c3 ?c4 ?c5 ?_)
      case c1 => exact one_new rfl
      case c2 => intro u hu; simp at hu; rw [hu]; rfl
      case c3 => unfold maxLen; omega
      case c4 => omega
      case c5 => simp; omega
      intro v' w4 hown2 hg _ hwhere
      have hacc := HA.out.push (b := UInt8.ofNat (n % 256)) hown2 rfl (by rw [byteV, UInt8.toNat_ofNat_of_lt' (by show _ < 256; omega)]; simp) hg (by simpa using hwhere)
      have HI2 : Hid (dig 8 N = dig (8 - (Ls ++ [UInt8.ofNat (n % 256)]).length) (n / 256) ++ (Ls ++ [UInt8.ofNat (n % 256)]).reverse ∧ n / 256 < 256 ^ (8 - (Ls ++ [UInt8.ofNat (n % 256)]).length)) := Lib.hid (by
        obtain ⟨h1, h2⟩ := HI.out
        rw [List.length_append, List.length_singleton]
        rw [show 8 - Ls.length = 8 - (Ls.length + 1) + 1 from by omega] at h1 h2
        refine ⟨dig_next h1 (by omega), ?_⟩
        rw [Nat.div_lt_iff_lt_mul (by omega), ← Nat.pow_succ]
        exact h2)
      have HW : Hid (IntKind.u64.wrap ((n : Int) / 256) = ((n / 256 : Nat) : Int)) := Lib.hid (by
        have h2 := HI.out.2
        have h3 : (256 : Nat) ^ (8 - Ls.length) ≤ 256 ^ 8 := Nat.pow_le_pow_right (by omega) (by omega)
        rw [IntWalk.u64_in _ (by omega)]; simp)
      have HA2 := Lib.hid hacc
      clear hown2 hg hwhere hacc
      go_wp2_with fail
      go_roundw
      case rel => exact ⟨n / 256, Ls ++ [UInt8.ofNat (n % 256)], v', by rw [HW.out], rfl, by simp; omega, HI2, HA2.out⟩
      case measure => rw [HW.out]; simp [intOf]; omega
    · have hnn : ¬ (0 : Int) < (n : Int) := by omega
      have HD : Hid (dig 8 N = Ls.reverse) := Lib.hid (by
        obtain ⟨h1, h2⟩ := HI.out
        obtain rfl : n = 0 := by omega
        rw [h1, dig_zero]; rfl)
      obtain ⟨a, c, rfl⟩ := owned_slice hacc.1
      have hsz := hacc.2.1.size
      have HA := Lib.hid hacc
      rw [HD.out]
      have hwr : RepB wr (fun b => b < wr.heap.size) Ls (.slice a Ls.length c) := (RepB.of_own HA.out.1).same (fun b hb => hb.2) fun _ _ => rfl
      have hown0 := World.ownsRow_lit wr #[.int .u8 (Ls.length : Int)] 1 (base := wr.heap.size) (e := 5) (size := 1) (Nat.le_refl _) (by unfold maxLen; omega) rfl
      have hl256 : (UInt8.ofNat Ls.length).toNat = Ls.length := UInt8.toNat_ofNat_of_lt' (by show _ < 256; omega)
      have hstart : Acc (wr.alloc (.cells #[.int .u8 (Ls.length : Int)] 5)) wr.heap.size (.slice (some ⟨wr.heap.size, 0, none⟩) 1 1) (wr.alloc (.cells #[.int .u8 (Ls.length : Int)] 5)) (.slice (some ⟨wr.heap.size, 0, none⟩) 1 1) [UInt8.ofNat Ls.length] :=
        Acc.start (by simpa [byteV, hl256] using hown0)
      have HWR := Lib.hid hwr
      have HSTA := Lib.hid hstart
      clear hacc hwr hown0 hl256 hstart
      obtain ⟨wo, rfl⟩ : ∃ wo : World, wo = wr := ⟨_, rfl⟩
      go_wp2_with fail
      go_loopw [4, 5] (fun o i w1 => ∃ (j : Nat) (x : Int) (v : Value), o = v ∧ i = .int .i64 x ∧ Hid (x = (j : Int) - 1) ∧ j ≤ Ls.length ∧
          Acc (wo.alloc (.cells #[.int .u8 (Ls.length : Int)] 5)) wo.heap.size (.slice (some ⟨wo.heap.size, 0, none⟩) 1 1) w1 v ([UInt8.ofNat Ls.length] ++ Ls.reverse.take (Ls.length - j))) (fun _ i _ => upOne i)
      case atStart => exact ⟨Ls.length, _, _, rfl, rfl, Lib.hid rfl, Nat.le_refl _, by simpa using HSTA.out⟩
      case round =>
        obtain ⟨j, x, v, rfl, rfl, HX, hj, hacc⟩ := hrel
        have HA3 := Lib.hid hacc
        have hkeep : ∀ b, b < wo.heap.size → wr.heap[b]? = wo.heap[b]? := fun b hb => by
          rw [hacc.2.1.block b (by simp; omega) (by simp [Value.ownBlock]; omega), Below.heap_alloc _ _ _ hb]
        have hz3 := hacc.2.1.size
        simp only [World.size_alloc] at hz3
        by_cases hj0 : 0 < j
        · have hx0 : 0 ≤ x := by have := HX.out; omega
          have hx8 : x ≤ 7 := by have := HX.out; omega
          have hxl : x < (Ls.length : Int) := by have := HX.out; omega
          have hjx : x.toNat = j - 1 := by have := HX.out; omega
          have hcell : ∃ b off, a = some ⟨b, off, none⟩ ∧ b < wo.heap.size ∧ wr.cell? ⟨b, off + x.toNat, none⟩ = some (.int .u8 ((Ls[j - 1]'(by omega)).toNat : Int)) := by
            rcases HWR.out with ⟨h, _⟩ | ⟨b, off, c, h, hb, _, _, hc⟩
            · rw [h] at hj; simp at hj; omega
            · cases h
              refine ⟨b, off, rfl, hb, ?_⟩
              rw [World.cell?_of_block (by exact hkeep b hb), hjx]
              exact hc (j - 1) (by omega)
          obtain ⟨b, off, rfl, hb, hcell⟩ := hcell
          have HJX := Lib.hid hjx
          generalize hdd : (Ls[j - 1]'(by omega)) = d at *
          have HDD := Lib.hid hdd
          clear hacc hkeep hjx hdd
          go_wp2_with (at_builtin; refine wpList_append_own2 _ rfl _ _ 22 rfl wo.heap.size 5 ib (.int .u8 0) 1 1 Try.underlying22 hib hib0 hib1 hib2 rfl (by decide) _ _ _ rfl (HA3.out.1.alloc _) ⟨wr.heap.size, 0, none⟩ 1 1 [.int .u8 (d.toNat : Int)] rfl rfl ?d1 ?d2 ?d3 ?d4 ?d5 ?_)
          case d1 => exact one_new rfl
          case d2 => intro u hu; simp at hu; rw [hu]; rfl
          case d3 => simp; unfold maxLen; omega
          case d4 => simp; omega
          case d5 => simp; omega
          intro v' w4 hown2 hg _ hwhere
          have hacc3 := HA3.out.push (b := d) hown2 (by simp) (by simp [byteV]) hg (by simpa using hwhere)
          have HACC3 : Hid (Acc (wo.alloc (.cells #[.int .u8 (Ls.length : Int)] 5)) wo.heap.size (.slice (some ⟨wo.heap.size, 0, none⟩) 1 1) w4 v' ([UInt8.ofNat Ls.length] ++ Ls.reverse.take (Ls.length - (j - 1)))) := Lib.hid (by
            rw [rev_take hj0 hj, HDD.out, ← List.append_assoc]; exact hacc3)
          have HX3 : Hid (x - 1 = ((j - 1 : Nat) : Int) - 1) := Lib.hid (by have := HX.out; omega)
          have hj3 : j - 1 ≤ Ls.length := by omega
          clear hown2 hg hwhere hacc3
          go_wp2_with fail
          go_roundw
          case rel => exact ⟨j - 1, x - 1, v', rfl, rfl, HX3, hj3, HACC3.out⟩
          case measure => simp [upOne, intOf, Go.RowKit.intOf]; omega
        · have hx0 : x < 0 := by have := HX.out; omega
          have HJ : Hid (Ls.length - j = Ls.length) := Lib.hid (by omega)
          clear hacc hkeep hj0
          go_wp2_with fail
          go_ret
          refine ⟨_, rfl, ?_, ?_⟩
          · have hg := HA.out.2.1
            have hg3 := HA3.out.2.1
            refine ⟨hg3.os.trans hg.os, hg3.tape.trans hg.tape, hg3.output.trans hg.output, by omega, fun k hk => ?_⟩
            rw [hg3.block k (by simp; omega) (by simp [Value.ownBlock]; omega), Below.heap_alloc _ _ _ (by omega)]
            exact hg.block k hk (by simp [Value.ownBlock])
          · have h := HA3.out.1
            rw [HJ.out, List.take_of_length_le (by simp)] at h
            rw [HD.out]
            obtain ⟨h1, h2⟩ := h
            refine ⟨by simp, ?_⟩
            rcases h2 with ⟨h2, h3⟩ | ⟨g, cap, cur, h3, h4, h5⟩
            · simp at h3
            · exact .inr ⟨g, cap, cur, by simpa using h3, by omega, by simpa using h5⟩
end Go.Proofs.Ytdngfbljcmbniaa.M

/- A log in segments, over plain lists. -/
import Derived.Test.YtbcpcopapbgcdaaGreatDoorSZ1
import Derived.Test.YtbcpcopapbgcdaaGreatDoorSZ2
import Derived.Test.YtbcpcopapbgcdaaGreatDoorSZ23
namespace Go.Proofs.YtbcpcopapbgcdaaGreatDoor.M
open D (Fl Dk)

/-- An entry. -/
structure En where
  idx : Int
  term : Int
  kind : Int
  b : List UInt8

/-- An entry, and where in its segment its row begins. -/
structure Rw where
  e : En
  pos : Int

/-- A segment. -/
structure Fi where
  first : Int
  last : Int
  size : Int
  torn : Int
  loose : Bool

/-- What is held of a log. -/
structure Hd where
  mi : Int
  mt : Int
  rows : List Rw
  files : List Fi
  synced : Int

def Hd.last (h : Hd) : Int × Int := match h.rows.getLast? with
  | none => (h.mi, h.mt)
  | some r => (r.e.idx, r.e.term)

def sgForm (e : En) : List UInt8 := num e.idx.toNat ++ (num e.term.toNat ++ (num e.kind.toNat ++ (num e.b.length ++ e.b)))

def sgRow (e : En) : List UInt8 := four (C.sumOf (four (sgForm e).length ++ sgForm e)) ++ (four (sgForm e).length ++ sgForm e)

def sgName (i : Int) : ByteArray := ⟨([115, 101, 103, 45] ++ dg 10 i.toNat).toArray⟩

def okMark (m : Int × Int) : Bool := decide (0 ≤ m.1 ∧ m.1 < 10000000000 ∧ 0 ≤ m.2 ∧ m.2 < 10000000000)

/-- Is it the next one behind a place? -/
def nextTo (m : Int × Int) (e : En) : Bool := decide (e.idx = m.1 + 1 ∧ e.idx < 10000000000 ∧ max m.2 1 ≤ e.term ∧ e.term < 10000000000 ∧ 0 ≤ e.kind ∧ e.kind ≤ 255 ∧ e.b.length ≤ 1048576)

def followE (m : Int × Int) : List En → Bool
  | [] => true
  | e :: es => nextTo m e && followE (e.idx, e.term) es

def Fi.has (f : Fi) : Bool := decide (f.first ≤ f.last)
def Fi.hollow (f : Fi) : Bool := decide (f.size = 0 ∧ f.torn = 0)

/-- An entry's row is laid behind the others. -/
def layE (least : Int) (h : Hd) (d : Dk) (e : En) : Int × Hd × Dk :=
  let old := match h.files.getLast? with
    | some f => if f.size < least then some f else none
    | none => none
  let f := match old with
    | some f => f
    | none => ⟨e.idx, 0, 0, 0, false⟩
  let stay := match old with
    | some _ => h.files.dropLast
    | none => h.files
  let r := D.append d (sgName f.first) [sgRow e]
  if r.1 ≠ 0 then (r.1, h, r.2)
  else (0, { h with rows := h.rows ++ [⟨e, f.size⟩], files := stay ++ [{ f with size := f.size + (sgRow e).length, last := e.idx, loose := true }] }, r.2)

def layEs (least : Int) : Hd → Dk → List En → Int × Hd × Dk
  | h, d, [] => (0, h, d)
  | h, d, e :: es => match layE least h d e with
    | (0, h', d') => layEs least h' d' es
    | r => r

def appendE (least : Int) (h : Hd) (d : Dk) (es : List En) : Int × Hd × Dk :=
  if followE h.last es = false then (2, h, d)
  else if d.free < ((es.map fun e => (sgRow e).length).sum : Nat) then (31, h, d)
  else layEs least h d es

def looseNames (fs : List Fi) : List ByteArray := (fs.filter (·.loose)).map fun f => sgName f.first

def tighten (h : Hd) : Hd := { h with files := h.files.map (fun f => { f with loose := false }), synced := h.last.1 }

def syncE (h : Hd) (d : Dk) : Int × Hd × Dk :=
  let ns := looseNames h.files
  let r := if ns = [] then (0, d) else D.sync d ns
  if r.1 ≠ 0 then (r.1, h, r.2) else (0, tighten h, r.2)
end Go.Proofs.YtbcpcopapbgcdaaGreatDoor.M

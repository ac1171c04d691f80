/- The disk, told purely: a directory, its changes, the files behind them, and the calls. -/
import Derived.Test.YtligofmcmjblpaaGreatByt
import Derived.Laws.Cover1
namespace Go.Proofs.YtligofmcmjblpaaGreat
open Go.RowKit
set_option linter.unusedVariables false

abbrev Ent := ByteArray × Nat
/-- What counts: the calls so far, the fuse, the wait till the first that fails, how many fail, is the power gone. -/
structure Cn where
  calls : Int
  fuse : Int
  wait : Int
  fails : Int
  off : Bool
structure DS where
  room : Int
  dir : List Ent
  was : List (List Ent)
  fl : Nat → List Int × Nat
  nx : Nat
  c : Cn

def fnd : List Ent → ByteArray → Option Nat
  | [], _ => none
  | e :: r, s => if (e.1.toList == s.toList) = true then some e.2 else fnd r s
def drp (l : List Ent) (s : ByteArray) : List Ent := l.filter fun e => !(e.1.toList == s.toList)
def pt : List Ent → ByteArray → Nat → List Ent
  | [], s, i => [(s, i)]
  | e :: r, s, i => if Op.bytesLess e.1.toList s.toList = true then e :: pt r s i else (s, i) :: drp (e :: r) s
def badc : List UInt8 → Bool
  | [] => false
  | c :: r => (c == 47 || c == 0) || badc r
def mayN (s : ByteArray) : Bool := !badc s.data.toList && (decide (1 ≤ s.size) && decide (s.size ≤ 64))

def Cn.fl (c : Cn) : Bool := decide (0 < c.fails) && !decide (1 < c.wait)
def Cn.cc (c : Cn) : Cn :=
  if c.off = true then { c with calls := c.calls + 1 }
  else { calls := c.calls + 1, fuse := if 0 < c.fuse then c.fuse - 1 else c.fuse, wait := if 0 < c.fails ∧ 1 < c.wait then c.wait - 1 else c.wait, fails := if 0 < c.fails ∧ ¬ 1 < c.wait then c.fails - 1 else c.fails, off := decide (c.fuse = 1) }
def Cn.ce (c : Cn) : Int := if c.off = true then 10 else if c.fuse = 1 then (if c.fl = true then 10 else 0) else if c.fl = true then 9 else 0
def Cn.cl (c : Cn) : Bool := !c.off && decide (c.fuse = 1) && !c.fl
def endE (e : Int) (last : Bool) : Int := if last = true then 10 else e
def Cn.Ok (c : Cn) : Prop := 0 ≤ c.calls ∧ c.calls ≤ 1048576 ∧ 0 ≤ c.fuse ∧ c.fuse ≤ 9223372036854775807 ∧ 0 ≤ c.wait ∧ c.wait ≤ 9223372036854775807 ∧ 0 ≤ c.fails ∧ c.fails ≤ 9223372036854775807

def upd (f : Nat → List Int × Nat) (i : Nat) (x : List Int × Nat) : Nat → List Int × Nat := fun j => if j = i then x else f j
def used (fl : Nat → List Int × Nat) : List Ent → Nat
  | [] => 0
  | e :: r => (fl e.2).1.length + used fl r
def DS.used (σ : DS) : Nat := YtligofmcmjblpaaGreat.used σ.fl σ.dir
def DS.cnt (σ : DS) : DS := { σ with c := σ.c.cc }
/-- A change of the directory. -/
def DS.chg (σ : DS) (d : List Ent) : DS := { σ with dir := d, was := σ.was ++ [d] }

def DS.create (σ : DS) (s : ByteArray) : Int × DS :=
  if σ.c.ce ≠ 0 then (σ.c.ce, σ.cnt)
  else if mayN s = false then (endE 15 σ.c.cl, σ.cnt)
  else if (fnd σ.dir s).isSome then (endE 6 σ.c.cl, σ.cnt)
  else (endE 0 σ.c.cl, { σ.cnt.chg (pt σ.dir s σ.nx) with fl := upd σ.fl σ.nx ([], 0), nx := σ.nx + 1 })
def DS.append (σ : DS) (s : ByteArray) (b : List Int) : Int × DS :=
  if σ.c.ce ≠ 0 then (σ.c.ce, σ.cnt)
  else match fnd σ.dir s with
  | none => (endE 7 σ.c.cl, σ.cnt)
  | some i => if (4194304 : Int) - (σ.fl i).1.length < b.length ∨ σ.room - σ.used < b.length then (endE 8 σ.c.cl, σ.cnt)
    else (endE 0 σ.c.cl, { σ.cnt with fl := upd σ.fl i ((σ.fl i).1 ++ b, (σ.fl i).2) })
def DS.sync (σ : DS) (s : ByteArray) : Int × DS :=
  if σ.c.ce ≠ 0 ∨ σ.c.cl = true then (endE σ.c.ce σ.c.cl, σ.cnt)
  else match fnd σ.dir s with
  | none => (7, σ.cnt)
  | some i => (0, { σ.cnt with fl := upd σ.fl i ((σ.fl i).1, (σ.fl i).1.length) })
def DS.rename (σ : DS) (s t : ByteArray) : Int × DS :=
  if σ.c.ce ≠ 0 then (σ.c.ce, σ.cnt)
  else match fnd σ.dir s with
  | none => (endE 7 σ.c.cl, σ.cnt)
  | some i => if mayN t = false then (endE 15 σ.c.cl, σ.cnt)
    else if (s.toList == t.toList) = true then (endE 0 σ.c.cl, σ.cnt)
    else (endE 0 σ.c.cl, σ.cnt.chg (pt (drp σ.dir s) t i))
def DS.remove (σ : DS) (s : ByteArray) : Int × DS :=
  if σ.c.ce ≠ 0 then (σ.c.ce, σ.cnt)
  else match fnd σ.dir s with
  | none => (endE 7 σ.c.cl, σ.cnt)
  | some i => (endE 0 σ.c.cl, σ.cnt.chg (drp σ.dir s))
def DS.syncDir (σ : DS) : Int × DS :=
  if σ.c.ce ≠ 0 ∨ σ.c.cl = true then (endE σ.c.ce σ.c.cl, σ.cnt)
  else (0, { σ.cnt with was := [σ.dir] })
def DS.read (σ : DS) (s : ByteArray) : Option (List Int) × Int :=
  if σ.c.off = true then (none, 10)
  else match fnd σ.dir s with
  | none => (none, 7)
  | some i => (some (σ.fl i).1, 0)
def DS.readAt (σ : DS) (s : ByteArray) (at_ n : Int) : List Int × Int :=
  if (σ.read s).2 ≠ 0 then ([], (σ.read s).2)
  else if at_ < 0 ∨ n < 0 then ([], 1)
  else if (((σ.read s).1.getD []).length : Int) < at_ ∨ (((σ.read s).1.getD []).length : Int) - at_ < n then ([], 5)
  else ((((σ.read s).1.getD []).drop at_.toNat).take n.toNat, 0)
def DS.list (σ : DS) : List ByteArray := if σ.c.off = true then [] else σ.dir.map (·.1)
def DS.setFuse (σ : DS) (n : Int) : DS := { σ with c := { σ.c with fuse := max 0 n } }
def DS.setFault (σ : DS) (f n : Int) : DS := { σ with c := { σ.c with wait := if f < 1 ∨ n < 1 then 0 else f, fails := if f < 1 ∨ n < 1 then 0 else n } }
/-- The kth pick, 0 to n. -/
def pick (ps : List Int) (k n : Nat) : Nat :=
  match ps[k]? with
  | none => 0
  | some x => (if x < 0 then (x % 4611686018427387904).toNat else x.toNat) % (n + 1)
/-- What a crash keeps of the kth file and those behind it: the new files bear new numbers. -/
def keeps (fl : Nat → List Int × Nat) (ps : List Int) (nx : Nat) : Nat → List Ent → (Nat → List Int × Nat) → List Ent × (Nat → List Int × Nat)
  | _, [], g => ([], g)
  | k, e :: r, g =>
    let q := (fl e.2).2 + pick ps (k + 1) ((fl e.2).1.length - (fl e.2).2)
    let x := keeps fl ps nx (k + 1) r (upd g (nx + k) ((fl e.2).1.take q, q))
    ((e.1, nx + k) :: x.1, x.2)
def DS.kept (σ : DS) (ps : List Int) : List Ent := σ.was.getD (pick ps 0 (σ.was.length - 1)) []
def DS.crash (σ : DS) (ps : List Int) : DS :=
  let x := keeps σ.fl ps σ.nx 0 (σ.kept ps) σ.fl
  { room := σ.room, dir := x.1, was := [x.1], fl := x.2, nx := σ.nx + (σ.kept ps).length, c := { calls := σ.c.calls, fuse := 0, wait := 0, fails := 0, off := false } }
def DS.spoil (σ : DS) (s : ByteArray) (at_ : Int) (x : Int) : Bool × DS :=
  if σ.c.off = true then (false, σ)
  else match fnd σ.dir s with
  | none => (false, σ)
  | some i => if 0 ≤ at_ ∧ at_ < (σ.fl i).1.length then (true, { σ with fl := upd σ.fl i ((σ.fl i).1.set at_.toNat x, (σ.fl i).2) }) else (false, σ)
def DS.new (room : Int) : DS := { room := max 0 room, dir := [], was := [[]], fl := fun _ => ([], 0), nx := 0, c := { calls := 0, fuse := 0, wait := 0, fails := 0, off := false } }
end Go.Proofs.YtligofmcmjblpaaGreat

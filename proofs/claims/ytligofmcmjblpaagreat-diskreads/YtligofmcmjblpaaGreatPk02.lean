import Derived.Laws.Cover1
import Derived.Test.YtligofmcmjblpaaGreatPk01
/- The disk, told purely: a directory, its changes, the files behind them, and the calls. -/
namespace Go.Proofs.YtligofmcmjblpaaGreat
open Go.RowKit
set_option linter.unusedVariables false

abbrev Ent := ByteArray × Nat
/-- What counts: the calls so far, the fuse, the wait till the first that fails, how many fail, is the power gone. -/
structure Cn where
  calls : Int
  fuse : Int
  wait : Int
  fails : Int
  off : Bool
structure DS where
  room : Int
  dir : List Ent
  was : List (List Ent)
  fl : Nat → List Int × Nat
  nx : Nat
  c : Cn

def fnd : List Ent → ByteArray → Option Nat
  | [], _ => none
  | e :: r, s => if (e.1.toList == s.toList) = true then some e.2 else fnd r s
def drp (l : List Ent) (s : ByteArray) : List Ent := l.filter fun e => !(e.1.toList == s.toList)
def pt : List Ent → ByteArray → Nat → List Ent
  | [], s, i => [(s, i)]
  | e :: r, s, i => if Op.bytesLess e.1.toList s.toList = true then e :: pt r s i else (s, i) :: drp (e :: r) s
def badc : List UInt8 → Bool
  | [] => false
  | c :: r => (c == 47 || c == 0) || badc r
def mayN (s : ByteArray) : Bool := !badc s.data.toList && (decide (1 ≤ s.size) && decide (s.size ≤ 64))

def Cn.fl (c : Cn) : Bool := decide (0 < c.fails) && !decide (1 < c.wait)
def Cn.cc (c : Cn) : Cn :=
  if c.off = true then { c with calls := c.calls + 1 }
  else { calls := c.calls + 1, fuse := if 0 < c.fuse then c.fuse - 1 else c.fuse, wait := if 0 < c.fails ∧ 1 < c.wait then c.wait - 1 else c.wait, fails := if 0 < c.fails ∧ ¬ 1 < c.wait then c.fails - 1 else c.fails, off := decide (c.fuse = 1) }
def Cn.ce (c : Cn) : Int := if c.off = true then 10 else if c.fuse = 1 then (if c.fl = true then 10 else 0) else if c.fl = true then 9 else 0
def Cn.cl (c : Cn) : Bool := !c.off && decide (c.fuse = 1) && !c.fl
def endE (e : Int) (last : Bool) : Int := if last = true then 10 else e
def Cn.Ok (c : Cn) : Prop := 0 ≤ c.calls ∧ c.calls ≤ 1048576 ∧ 0 ≤ c.fuse ∧ c.fuse ≤ 9223372036854775807 ∧ 0 ≤ c.wait ∧ c.wait ≤ 9223372036854775807 ∧ 0 ≤ c.fails ∧ c.fails ≤ 9223372036854775807

def upd (f : Nat → List Int × Nat) (i : Nat) (x : List Int × Nat) : Nat → List Int × Nat := fun j => if j = i then x else f j
def used (fl : Nat → List Int × Nat) : List Ent → Nat
  | [] => 0
  | e :: r => (fl e.2).1.length + used fl r
def DS.used (σ : DS) : Nat := YtligofmcmjblpaaGreat.used σ.fl σ.dir
def DS.cnt (σ : DS) : DS := { σ with c := σ.c.cc }
/-- A change of the directory. -/
def DS.chg (σ : DS) (d : List Ent) : DS := { σ with dir := d, was := σ.was ++ [d] }

def DS.create (σ : DS) (s : ByteArray) : Int × DS :=
  if σ.c.ce ≠ 0 then (σ.c.ce, σ.cnt)
  else if mayN s = false then (endE 15 σ.c.cl, σ.cnt)
  else if (fnd σ.dir s).isSome then (endE 6 σ.c.cl, σ.cnt)
  else (endE 0 σ.c.cl, { σ.cnt.chg (pt σ.dir s σ.nx) with fl := upd σ.fl σ.nx ([], 0), nx := σ.nx + 1 })
def DS.append (σ : DS) (s : ByteArray) (b : List Int) : Int × DS :=
  if σ.c.ce ≠ 0 then (σ.c.ce, σ.cnt)
  else match fnd σ.dir s with
  | none => (endE 7 σ.c.cl, σ.cnt)
  | some i => if (4194304 : Int) - (σ.fl i).1.length < b.length ∨ σ.room - σ.used < b.length then (endE 8 σ.c.cl, σ.cnt)
    else (endE 0 σ.c.cl, { σ.cnt with fl := upd σ.fl i ((σ.fl i).1 ++ b, (σ.fl i).2) })
def DS.sync (σ : DS) (s : ByteArray) : Int × DS :=
  if σ.c.ce ≠ 0 ∨ σ.c.cl = true then (endE σ.c.ce σ.c.cl, σ.cnt)
  else match fnd σ.dir s with
  | none => (7, σ.cnt)
  | some i => (0, { σ.cnt with fl := upd σ.fl i ((σ.fl i).1, (σ.fl i).1.length) })
def DS.rename (σ : DS) (s t : ByteArray) : Int × DS :=
  if σ.c.ce ≠ 0 then (σ.c.ce, σ.cnt)
  else match fnd σ.dir s with
  | none => (endE 7 σ.c.cl, σ.cnt)
  | some i => if mayN t = false then (endE 15 σ.c.cl, σ.cnt)
    else if (s.toList == t.toList) = true then (endE 0 σ.c.cl, σ.cnt)
    else (endE 0 σ.c.cl, σ.cnt.chg (pt (drp σ.dir s) t i))
def DS.remove (σ : DS) (s : ByteArray) : Int × DS :=
  if σ.c.ce ≠ 0 then (σ.c.ce, σ.cnt)
  else match fnd σ.dir s with
  | none => (endE 7 σ.c.cl, σ.cnt)
  | some i => (endE 0 σ.c.cl, σ.cnt.chg (drp σ.dir s))
def DS.syncDir (σ : DS) : Int × DS :=
  if σ.c.ce ≠ 0 ∨ σ.c.cl = true then (endE σ.c.ce σ.c.cl, σ.cnt)
  else (0, { σ.cnt with was := [σ.dir] })
def DS.read (σ : DS) (s : ByteArray) : Option (List Int) × Int :=
  if σ.c.off = true then (none, 10)
  else match fnd σ.dir s with
  | none => (none, 7)
  | some i => (some (σ.fl i).1, 0)
def DS.readAt (σ : DS) (s : ByteArray) (at_ n : Int) : List Int × Int :=
  if (σ.read s).2 ≠ 0 then ([], (σ.read s).2)
  else if at_ < 0 ∨ n < 0 then ([], 1)
  else if (((σ.read s).1.getD []).length : Int) < at_ ∨ (((σ.read s).1.getD []).length : Int) - at_ < n then ([], 5)
  else ((((σ.read s).1.getD []).drop at_.toNat).take n.toNat, 0)
def DS.list (σ : DS) : List ByteArray := if σ.c.off = true then [] else σ.dir.map (·.1)
def DS.setFuse (σ : DS) (n : Int) : DS := { σ with c := { σ.c with fuse := max 0 n } }
def DS.setFault (σ : DS) (f n : Int) : DS := { σ with c := { σ.c with wait := if f < 1 ∨ n < 1 then 0 else f, fails := if f < 1 ∨ n < 1 then 0 else n } }
/-- The kth pick, 0 to n. -/
def pick (ps : List Int) (k n : Nat) : Nat :=
  match ps[k]? with
  | none => 0
  | some x => (if x < 0 then (x % 4611686018427387904).toNat else x.toNat) % (n + 1)
/-- What a crash keeps of the kth file and those behind it: the new files bear new numbers. -/
def keeps (fl : Nat → List Int × Nat) (ps : List Int) (nx : Nat) : Nat → List Ent → (Nat → List Int × Nat) → List Ent × (Nat → List Int × Nat)
  | _, [], g => ([], g)
  | k, e :: r, g =>
    let q := (fl e.2).2 + pick ps (k + 1) ((fl e.2).1.length - (fl e.2).2)
    let x := keeps fl ps nx (k + 1) r (upd g (nx + k) ((fl e.2).1.take q, q))
    ((e.1, nx + k) :: x.1, x.2)
def DS.kept (σ : DS) (ps : List Int) : List Ent := σ.was.getD (pick ps 0 (σ.was.length - 1)) []
def DS.crash (σ : DS) (ps : List Int) : DS :=
  let x := keeps σ.fl ps σ.nx 0 (σ.kept ps) σ.fl
  { room := σ.room, dir := x.1, was := [x.1], fl := x.2, nx := σ.nx + (σ.kept ps).length, c := { calls := σ.c.calls, fuse := 0, wait := 0, fails := 0, off := false } }
def DS.spoil (σ : DS) (s : ByteArray) (at_ : Int) (x : Int) : Bool × DS :=
  if σ.c.off = true then (false, σ)
  else match fnd σ.dir s with
  | none => (false, σ)
  | some i => if 0 ≤ at_ ∧ at_ < (σ.fl i).1.length then (true, { σ with fl := upd σ.fl i ((σ.fl i).1.set at_.toNat x, (σ.fl i).2) }) else (false, σ)
def DS.new (room : Int) : DS := { room := max 0 room, dir := [], was := [[]], fl := fun _ => ([], 0), nx := 0, c := { calls := 0, fuse := 0, wait := 0, fails := 0, off := false } }
end Go.Proofs.YtligofmcmjblpaaGreat

/- How the document's own disk lies in memory. -/
namespace Go.Proofs.YtligofmcmjblpaaGreat
open Go.RowKit
set_option linter.unusedVariables false

/-- All that is not of F stands as it stood. -/
structure Kept (F : Nat → Prop) (w w' : World) : Prop where
  os : w'.os = w.os
  tape : w'.tape = w.tape
  output : w'.output = w.output
  size : w.heap.size ≤ w'.heap.size
  block : ∀ k, k < w.heap.size → ¬ F k → w'.heap[k]? = w.heap[k]?
theorem Kept.refl (F : Nat → Prop) (w : World) : Kept F w w := ⟨rfl, rfl, rfl, Nat.le_refl _, fun _ _ _ => rfl⟩
theorem Kept.trans {F G : Nat → Prop} {a b c : World} (h : Kept F a b) (k : Kept G b c) (hs : ∀ k, G k → F k ∨ a.heap.size ≤ k) : Kept F a c :=
  ⟨k.os.trans h.os, k.tape.trans h.tape, k.output.trans h.output, Nat.le_trans h.size k.size, fun i hi hn => (k.block i (Nat.lt_of_lt_of_le hi h.size) (fun g => by rcases hs i g with x | x; exact hn x; omega)).trans (h.block i hi hn)⟩
theorem Kept.grown {F : Nat → Prop} {w w' : World} {row : Option Nat} (h : w.grownBy w' row) (hr : ∀ k, row = some k → F k ∨ w.heap.size ≤ k) : Kept F w w' :=
  ⟨h.os, h.tape, h.output, h.size, fun k hk hn => h.block k hk fun e => by rcases hr k e.symm with x | x; exact hn x; omega⟩
theorem Kept.below {F : Nat → Prop} {w w' : World} {B : Nat} (h : Kept F w w') (hB : B ≤ w.heap.size) (hF : ∀ k, F k → B ≤ k) : Below B w w' :=
  ⟨h.os, h.tape, h.output, h.size, fun k hk => h.block k (by omega) fun g => by have := hF k g; omega⟩
theorem below_kept {F : Nat → Prop} {w w' : World} (h : Below w.heap.size w w') : Kept F w w' := ⟨h.os, h.tape, h.output, h.size, fun k hk _ => h.block k hk⟩
theorem below_grown {w w' : World} (h : Below w.heap.size w w') (row : Option Nat) : w.grownBy w' row := ⟨h.os, h.tape, h.output, h.size, fun k hk _ => h.block k hk⟩
theorem grown_none {w w' : World} (h : w.grownBy w' none) : Below w.heap.size w w' := ⟨h.os, h.tape, h.output, h.size, fun k hk => h.block k hk (by simp)⟩
theorem grown_trans {w w' w'' : World} {r : Option Nat} (h : w.grownBy w' r) (k : w'.grownBy w'' r) : w.grownBy w'' r :=
  ⟨k.os.trans h.os, k.tape.trans h.tape, k.output.trans h.output, Nat.le_trans h.size k.size, fun i hi hn => (k.block i (Nat.lt_of_lt_of_le hi h.size) hn).trans (h.block i hi hn)⟩
theorem grown_set (w : World) (p k : Nat) (v : Value) : w.grownBy (w.setCell ⟨p, k, none⟩ v) (some p) :=
  ⟨rfl, rfl, rfl, by simp [World.setCell], fun i hi hn => Below.heap_setCell _ _ _ _ (fun e => hn (by rw [e]))⟩

def TyOf (w : World) (g : Nat) (t : TypeId) : Prop := ∃ c f, w.heap[g]? = some (.cells c t f)
theorem TyOf.ne {w : World} {g h : Nat} {t u : TypeId} (a : TyOf w g t) (b : TyOf w h u) (n : t ≠ u) : g ≠ h := fun e => by
  obtain ⟨c, f, x⟩ := a
  obtain ⟨c', f', y⟩ := b
  subst e
  rw [x] at y
  simp only [Option.some.injEq, Obj.cells.injEq] at y
  exact n y.2.1
theorem TyOf.lt {w : World} {g : Nat} {t : TypeId} (a : TyOf w g t) : g < w.heap.size := by
  obtain ⟨c, f, x⟩ := a
  exact (Array.getElem?_eq_some_iff.1 x).1

/-- A row that stands where it stood. -/
theorem owns_same {w w' : World} {b : Nat} {e : TypeId} {size : Nat} {v : Value} {n : Nat} {xs : List Value} (h : w.ownsRow b e size v n xs) (hs : ∀ g, v.ownBlock = some g → w'.heap[g]? = w.heap[g]?) : w'.ownsRow b e size v n xs := by
  refine ⟨h.1, ?_⟩
  rcases h.2 with hn | ⟨g, cap, cur, rfl, hb, hgg, rest⟩
  · exact .inl hn
  · exact .inr ⟨g, cap, cur, rfl, hb, by rw [hs g rfl]; exact hgg, rest⟩
theorem owns_ty {w : World} {b : Nat} {e : TypeId} {size : Nat} {v : Value} {n : Nat} {xs : List Value} (h : w.ownsRow b e size v n xs) {g : Nat} (hg : v.ownBlock = some g) : TyOf w g e := by
  rcases h.2 with ⟨rfl, hn⟩ | ⟨g', cap, cur, rfl, hb, hgg, rest⟩
  · simp [Value.ownBlock] at hg
  · simp only [Value.ownBlock, Option.some.injEq] at hg
    subst hg
    exact ⟨_, _, hgg⟩
/-- A row of another kind than the one that was written. -/
theorem owns_grown {w w' : World} {b : Nat} {e : TypeId} {size : Nat} {v : Value} {n : Nat} {xs : List Value} {row : Option Nat} (h : w.ownsRow b e size v n xs) (hg : w.grownBy w' row) (hr : ∀ g, row = some g → ¬ TyOf w g e) : w'.ownsRow b e size v n xs :=
  owns_same h fun g e' => hg.block g (owns_ty h e').lt fun x => hr g x.symm (owns_ty h e')

def ptr (g : Nat) : Value := .pointer (some ⟨g, 0, none⟩)
def entC (loc : Nat → Nat) (l : List Ent) : List Value := l.flatMap fun e => [.string e.1, ptr (loc e.2)]
theorem entC_length (loc : Nat → Nat) (l : List Ent) : (entC loc l).length = l.length * 2 := by
  induction l with
  | nil => rfl
  | cons e r ih => simp only [entC, List.flatMap_cons, List.length_append, List.length_cons, List.length_nil] at ih ⊢; omega
theorem entC_app (loc : Nat → Nat) (l m : List Ent) : entC loc (l ++ m) = entC loc l ++ entC loc m := by simp [entC]
theorem entC_at (loc : Nat → Nat) (l : List Ent) (k : Nat) (h : k < l.length) : (entC loc l)[k * 2]? = some (.string l[k].1) ∧ (entC loc l)[k * 2 + 1]? = some (ptr (loc l[k].2)) := by
  induction l generalizing k with
  | nil => simp at h
  | cons e r ih =>
    cases k with
    | zero => exact ⟨rfl, rfl⟩
    | succ k =>
      have := ih k (by simpa using h)
      rw [show (k + 1) * 2 = k * 2 + 2 by omega, show k * 2 + 2 + 1 = k * 2 + 1 + 2 by omega]
      exact this

structure DirR (w : World) (F : Nat → Prop) (loc : Nat → Nat) (v : Value) (l : List Ent) : Prop where
  row : w.ownsRow 0 102 2 v l.length (entC loc l)
  own : ∀ g, v.ownBlock = some g → F g
structure WasR (w : World) (F : Nat → Prop) (loc : Nat → Nat) (v : Value) (ls : List (List Ent)) : Prop where
  ex : ∃ vs : List Value, w.ownsRow 0 53 1 v vs.length vs ∧ (∀ g, v.ownBlock = some g → F g) ∧ vs.length = ls.length ∧ ∀ (k : Nat) (x : Value) (l : List Ent), vs[k]? = some x → ls[k]? = some l → DirR w F loc x l
structure FileR (w : World) (F : Nat → Prop) (g : Nat) (f : List Int × Nat) : Prop where
  fp : F g
  ex : ∃ dv, w.heap[g]? = some (.cells #[dv, .int .i64 (f.2 : Int)] 77 (0, 0)) ∧ Row 0 w dv f.1 ∧ ∀ b, dv.ownBlock = some b → F b
def Dk (w : World) (p : Nat) (room : Int) (lv wv : Value) (c : Cn) : Prop := w.heap[p]? = some (.cells #[.int .i64 room, lv, wv, .int .i64 c.calls, .int .i64 c.fuse, .int .i64 c.wait, .int .i64 c.fails, .bool c.off] 55 (0, 0))
def Alive (σ : DS) (i : Nat) : Prop := (∃ s, (s, i) ∈ σ.dir) ∨ ∃ l ∈ σ.was, ∃ s, (s, i) ∈ l
/-- F: the blocks; A: the numbers of the files that lie there. -/
structure RefAt (w : World) (p : Nat) (σ : DS) (F A : Nat → Prop) (loc : Nat → Nat) (lv wv : Value) : Prop where
  fp : F p
  blk : Dk w p σ.room lv wv σ.c
  dir : DirR w F loc lv σ.dir
  was : WasR w F loc wv σ.was
  file : ∀ i, A i → FileR w F (loc i) (σ.fl i)
  inj : ∀ i j, A i → A j → loc i = loc j → i = j
  lt : ∀ k, F k → k < w.heap.size
  al : ∀ i, Alive σ i → A i
  nx : ∀ i, A i → i < σ.nx

theorem Dk.ty {w : World} {p : Nat} {room : Int} {lv wv : Value} {c : Cn} (h : Dk w p room lv wv c) : TyOf w p 55 := ⟨_, _, h⟩
theorem DirR.mono {w : World} {F G : Nat → Prop} {loc : Nat → Nat} {v : Value} {l : List Ent} (h : DirR w F loc v l) (hs : ∀ k, F k → G k) : DirR w G loc v l := ⟨h.row, fun g e => hs g (h.own g e)⟩
theorem DirR.same {w w' : World} {F : Nat → Prop} {loc : Nat → Nat} {v : Value} {l : List Ent} (h : DirR w F loc v l) (hs : ∀ k, F k → w'.heap[k]? = w.heap[k]?) : DirR w' F loc v l := ⟨owns_same h.row fun g e => hs g (h.own g e), h.own⟩
theorem DirR.grown {w w' : World} {F : Nat → Prop} {loc : Nat → Nat} {v : Value} {l : List Ent} {row : Option Nat} (h : DirR w F loc v l) (hg : w.grownBy w' row) (hr : ∀ g, row = some g → ¬ TyOf w g 102) : DirR w' F loc v l := ⟨owns_grown h.row hg hr, h.own⟩
theorem DirR.loc {w : World} {F : Nat → Prop} {loc loc' : Nat → Nat} {v : Value} {l : List Ent} (h : DirR w F loc v l) (hl : ∀ e ∈ l, loc' e.2 = loc e.2) : DirR w F loc' v l := by
  refine ⟨?_, h.own⟩
  have : entC loc' l = entC loc l := by
    clear h
    induction l with
    | nil => rfl
    | cons e r ih =>
      have h1 := ih fun x hx => hl x (by simp [hx])
      have h2 := hl e (by simp)
      simp only [entC, List.flatMap_cons] at h1 ⊢
      rw [h1, h2]
  rw [this]
  exact h.row
theorem WasR.mono {w : World} {F G : Nat → Prop} {loc : Nat → Nat} {v : Value} {ls : List (List Ent)} (h : WasR w F loc v ls) (hs : ∀ k, F k → G k) : WasR w G loc v ls := by
  obtain ⟨vs, a, b, c, d⟩ := h.ex
  exact ⟨vs, a, fun g e => hs g (b g e), c, fun k x l p q => (d k x l p q).mono hs⟩
theorem WasR.same {w w' : World} {F : Nat → Prop} {loc : Nat → Nat} {v : Value} {ls : List (List Ent)} (h : WasR w F loc v ls) (hs : ∀ k, F k → w'.heap[k]? = w.heap[k]?) : WasR w' F loc v ls := by
  obtain ⟨vs, a, b, c, d⟩ := h.ex
  exact ⟨vs, owns_same a fun g e => hs g (b g e), b, c, fun k x l p q => (d k x l p q).same hs⟩
theorem WasR.grown {w w' : World} {F : Nat → Prop} {loc : Nat → Nat} {v : Value} {ls : List (List Ent)} {row : Option Nat} (h : WasR w F loc v ls) (hg : w.grownBy w' row) (hr : ∀ g, row = some g → ¬ TyOf w g 102 ∧ ¬ TyOf w g 53) : WasR w' F loc v ls := by
  obtain ⟨vs, a, b, c, d⟩ := h.ex
  exact ⟨vs, owns_grown a hg fun g e => (hr g e).2, b, c, fun k x l p q => (d k x l p q).grown hg fun g e => (hr g e).1⟩
theorem WasR.loc {w : World} {F : Nat → Prop} {loc loc' : Nat → Nat} {v : Value} {ls : List (List Ent)} (h : WasR w F loc v ls) (hl : ∀ l ∈ ls, ∀ e ∈ l, loc' e.2 = loc e.2) : WasR w F loc' v ls := by
  obtain ⟨vs, a, b, c, d⟩ := h.ex
  exact ⟨vs, a, b, c, fun k x l p q => (d k x l p q).loc (hl l (List.mem_of_getElem? q))⟩
theorem FileR.mono {w : World} {F G : Nat → Prop} {g : Nat} {f : List Int × Nat} (h : FileR w F g f) (hs : ∀ k, F k → G k) : FileR w G g f := by
  obtain ⟨dv, a, b, c⟩ := h.ex
  exact ⟨hs _ h.fp, dv, a, b, fun b e => hs b (c b e)⟩
theorem FileR.same {w w' : World} {F : Nat → Prop} {g : Nat} {f : List Int × Nat} (h : FileR w F g f) (hs : ∀ k, F k → w'.heap[k]? = w.heap[k]?) : FileR w' F g f := by
  obtain ⟨dv, a, b, c⟩ := h.ex
  exact ⟨h.fp, dv, by rw [hs g h.fp]; exact a, owns_same b fun k e => hs k (c k e), c⟩
theorem FileR.ty {w : World} {F : Nat → Prop} {g : Nat} {f : List Int × Nat} (h : FileR w F g f) : TyOf w g 77 := by
  obtain ⟨dv, a, b, c⟩ := h.ex
  exact ⟨_, _, a⟩
theorem FileR.grown {w w' : World} {F : Nat → Prop} {g : Nat} {f : List Int × Nat} {row : Option Nat} (h : FileR w F g f) (hg : w.grownBy w' row) (hr : ∀ k, row = some k → k ≠ g ∧ ¬ TyOf w k 5) : FileR w' F g f := by
  obtain ⟨dv, a, b, c⟩ := h.ex
  exact ⟨h.fp, dv, by rw [hg.block g h.ty.lt fun e => (hr g e.symm).1 rfl]; exact a, owns_grown b hg fun k e => (hr k e).2, c⟩
theorem RefAt.same {w w' : World} {p : Nat} {σ : DS} {F A : Nat → Prop} {loc : Nat → Nat} {lv wv : Value} (h : RefAt w p σ F A loc lv wv) (hs : ∀ k, F k → w'.heap[k]? = w.heap[k]?) : RefAt w' p σ F A loc lv wv :=
  ⟨h.fp, by unfold Dk; rw [hs p h.fp]; exact h.blk, h.dir.same hs, h.was.same hs, fun i hi => (h.file i hi).same hs, h.inj, fun k hk => by
    have := h.lt k hk
    have e := hs k hk
    rw [Array.getElem?_eq_getElem this] at e
    exact (Array.getElem?_eq_some_iff.1 e).1, h.al, h.nx⟩
theorem RefAt.later {w w' : World} {p : Nat} {σ : DS} {F A : Nat → Prop} {loc : Nat → Nat} {lv wv : Value} (h : RefAt w p σ F A loc lv wv) (hb : Below w.heap.size w w') : RefAt w' p σ F A loc lv wv :=
  h.same fun k hk => hb.block k (h.lt k hk)
/-- What else is there stays, where the disk's own block is written. -/
theorem RefAt.disk {w w' : World} {p : Nat} {σ : DS} {F A : Nat → Prop} {loc : Nat → Nat} {lv wv : Value} (h : RefAt w p σ F A loc lv wv) (hg : w.grownBy w' (some p)) {c : Cn} (hd : Dk w' p σ.room lv wv c) : RefAt w' p { σ with c := c } F A loc lv wv := by
  have ne : ∀ t, t ≠ 55 → ∀ g, some p = some g → ¬ TyOf w g t := fun t ht g e x => by
    simp only [Option.some.injEq] at e
    subst e
    exact absurd rfl (TyOf.ne h.blk.ty x (Ne.symm ht))
  exact ⟨h.fp, hd, h.dir.grown hg (ne 102 (by decide)), h.was.grown hg (fun g e => ⟨ne 102 (by decide) g e, ne 53 (by decide) g e⟩), fun i hi => (h.file i hi).grown hg (fun k e => ⟨by
    simp only [Option.some.injEq] at e
    subst e
    exact TyOf.ne h.blk.ty (h.file i hi).ty (by decide), ne 5 (by decide) k e⟩), h.inj, fun k hk => Nat.lt_of_lt_of_le (h.lt k hk) hg.size, h.al, h.nx⟩

theorem heap_set {w : World} {p : Nat} {C : Array Value} {t : TypeId} {f : Nat × Nat} (h : w.heap[p]? = some (.cells C t f)) (k : Nat) (v : Value) : (w.setCell ⟨p, k, none⟩ v).heap[p]? = some (.cells (C.setIfInBounds k v) t f) := by
  simp only [World.setCell, Array.getElem?_modify, if_true, h]
  rfl
theorem cell_of {w : World} {p : Nat} {C : Array Value} {t : TypeId} {f : Nat × Nat} (h : w.heap[p]? = some (.cells C t f)) (k : Nat) : w.cell? ⟨p, k, none⟩ = C[k]? := by
  simp [World.cell?, h]
theorem frozen_of {w : World} {p : Nat} {C : Array Value} {t : TypeId} (h : w.heap[p]? = some (.cells C t (0, 0))) (k : Nat) : w.frozen? ⟨p, k, none⟩ = false := by
  simp [World.frozen?, h]
end Go.Proofs.YtligofmcmjblpaaGreat

/- What holds of each state of a disk. -/
namespace Go.Proofs.YtligofmcmjblpaaGreat
open Go.RowKit
set_option linter.unusedVariables false

/-- What holds of each state that is met. -/
structure Inv (σ : DS) : Prop where
  ok : σ.c.Ok
  dl : (σ.dir.length : Int) ≤ σ.c.calls
  wl : (σ.was.length : Int) ≤ σ.c.calls + 1
  w1 : 1 ≤ σ.was.length
  wd : ∀ l ∈ σ.was, (l.length : Int) ≤ σ.c.calls
  room : 0 ≤ σ.room ∧ σ.room ≤ 9223372036854775807
  fl : ∀ i, (σ.fl i).1.length ≤ 4194304 ∧ (σ.fl i).2 ≤ (σ.fl i).1.length ∧ Okb (σ.fl i).1
theorem ce_cases (c : Cn) : c.ce = 10 ∨ c.ce = 9 ∨ c.ce = 0 := by
  unfold Cn.ce
  split
  · exact .inl rfl
  · split
    · split
      · exact .inl rfl
      · exact .inr (.inr rfl)
    · split
      · exact .inr (.inl rfl)
      · exact .inr (.inr rfl)
theorem fnd_mem : ∀ {l : List Ent} {s : ByteArray} {i : Nat}, fnd l s = some i → ∃ a, (a, i) ∈ l
  | e :: r, s, i, h => by
    rw [fnd] at h
    split at h
    · simp only [Option.some.injEq] at h
      subst h
      exact ⟨e.1, by simp⟩
    · obtain ⟨a, ha⟩ := fnd_mem h
      exact ⟨a, by simp [ha]⟩
end Go.Proofs.YtligofmcmjblpaaGreat

import Derived.Deep.Slices
import Derived.ProofKit
import Derived.OpenShut
import Derived.Lib.BytesEntry
import Derived.Lib.IndexLaws
import Derived.Laws.Externs
import Derived.Test.YtaefddnmldbgiaaDoorPk07
import Derived.Test.YtaefddnmldbgiaaDoorPk08
import Derived.Test.YtaefddnmldbgiaaDoorPk10
import Derived.Test.YtaefddnmldbgiaaDoorPk14
/- How a row of entries that came in is opened. -/
namespace Go.Proofs.YtaefddnmldbgiaaDoor
open Go.ChangeShapes Go.WideShapes Go.ChangeAt Go.RowKit Go.Deep
set_option linter.unusedVariables false
set_option linter.unusedSimpArgs false

/-- Elements that lie side by side, told one by one. -/
theorem lay_of {α : Type} {E : El α} {w : World} {b off : Nat} : ∀ (len : Nat), (∀ k, k < len → ∃ x vs, E.M w vs x ∧ ∀ (j : Nat) (v : Value), vs[j]? = some v → w.cell? ⟨b, off + (k * E.size + j), none⟩ = some v) →
    ∃ xs us, xs.length = len ∧ Lay E w us xs ∧ ∀ (j : Nat) (u : Value), us[j]? = some u → w.cell? ⟨b, off + j, none⟩ = some u
  | 0, _ => ⟨[], [], rfl, rfl, fun j u hu => by simp at hu⟩
  | n + 1, h => by
    obtain ⟨xs, us, h1, h2, h3⟩ := lay_of n (fun k hk => h k (by omega))
    obtain ⟨x, vs, g1, g2⟩ := h n (by omega)
    have hl := h2.len
    rw [h1] at hl
    refine ⟨xs ++ [x], us ++ vs, by simp [h1], h2.app ⟨vs, [], by simp, g1, rfl⟩, fun j u hu => ?_⟩
    by_cases q : j < us.length
    · rw [List.getElem?_append_left q] at hu
      exact h3 j u hu
    · rw [List.getElem?_append_right (by omega)] at hu
      have := g2 _ u hu
      rw [show n * E.size + (j - us.length) = j by omega] at this
      exact this
section
variable {H : Type} {enc : TypeId × Value → H} {W : World} {spare : Nat → Bool} {held : Bool} {base : Nat}
theorem cells2 : Tryd.prog.cellsOf 2 = 1 := by kernel_rfl
theorem cells4 : Tryd.prog.cellsOf 4 = 1 := by kernel_rfl
theorem cellsEntry : Tryd.prog.cellsOf 28 = 5 := by kernel_rfl
/-- A slice of bytes, as a cell. -/
theorem cell_bytes {fuel : Nat} {cs : List Value} {x : DataW H × List MemPlace} (hf : DataW.trod enc Tryd.prog W base spare held fuel 26 cs = some x) :
    ∃ (ao : Option Addr) (xs : List Int) (cap : Nat), cs = [.slice ao xs.length cap] ∧ Sl W ao xs.length cap xs := by
  rcases open_slice1 Tryd.underlying26 cells5 hf with ⟨hcs, _⟩ | ⟨a, len, cap, m, n, V, D, Pl, hcs, hb, hl, hm, hmm, _, hc⟩
  · exact ⟨none, [], 0, hcs, Sl.nil W⟩
  · have hlm : len ≤ m := by rw [hmm]; split <;> omega
    have hB : Byt W (some a) len (fun k => (intOf (V k)).toNat) := fun k hk => by
      obtain ⟨c0, t0⟩ := hc k (by omega)
      obtain ⟨z, e0, _, wf⟩ := DataW.trod_int Tryd.underlying5 t0
      simp at e0
      have hr := wf_u8 wf
      obtain ⟨b, off, spot⟩ := a
      have hspot : spot = none := by
        have h0 := (hc 0 (by omega)).1
        simpa [Addr.add] using World.cell?_spot h0
      subst hspot
      rw [Addr.add_lit, e0] at c0
      simp only [e0, intOf]
      refine ⟨by omega, b, off, rfl, ?_⟩
      rw [c0]
      congr 2
      omega
    have hS := sl_bs (fun e => by cases e) hl hm hB
    have hlen := bs_length (fun k => (intOf (V k)).toNat) len
    refine ⟨some a, bs (fun k => (intOf (V k)).toNat) len, cap, by rw [hlen]; exact hcs, by rw [hlen]; exact hS⟩
theorem list5 {α : Type} (l : List α) (h : l.length = 5) : ∃ a b c d e, l = [a, b, c, d, e] := by
  match l, h with
  | [a, b, c, d, e], _ => exact ⟨a, b, c, d, e, rfl⟩
/-- An entry: its five cells. -/
theorem open_ent {fuel : Nat} {cs : List Value} {x : DataW H × List MemPlace} (hf : DataW.trod enc Tryd.prog W base spare held fuel 28 cs = some x) : ∃ o : EntV, EntM W cs o := by
  obtain ⟨xs, n, _, _, hl, hxl, hc⟩ := DataW.trod_struct Tryd.underlying28 hf
  rw [cellsEntry] at hl
  obtain ⟨a, b, c, d, e, rfl⟩ := list5 cs hl
  have g0 : DataW.trod enc Tryd.prog W base spare held n 26 (([a, b, c, d, e].drop 0).take (Tryd.prog.cellsOf 26)) = xs[0]? := hc 0 _ rfl
  rw [cells26, List.getElem?_eq_getElem (show 0 < xs.length by rw [hxl]; decide)] at g0
  have g1 : DataW.trod enc Tryd.prog W base spare held n 2 (([a, b, c, d, e].drop 1).take (Tryd.prog.cellsOf 2)) = xs[1]? := hc 1 _ rfl
  rw [cells2, List.getElem?_eq_getElem (show 1 < xs.length by rw [hxl]; decide)] at g1
  have g2 : DataW.trod enc Tryd.prog W base spare held n 4 (([a, b, c, d, e].drop 2).take (Tryd.prog.cellsOf 4)) = xs[2]? := hc 2 _ rfl
  rw [cells4, List.getElem?_eq_getElem (show 2 < xs.length by rw [hxl]; decide)] at g2
  have g3 : DataW.trod enc Tryd.prog W base spare held n 2 (([a, b, c, d, e].drop 3).take (Tryd.prog.cellsOf 2)) = xs[3]? := hc 3 _ rfl
  rw [cells2, List.getElem?_eq_getElem (show 3 < xs.length by rw [hxl]; decide)] at g3
  have g4 : DataW.trod enc Tryd.prog W base spare held n 26 (([a, b, c, d, e].drop 4).take (Tryd.prog.cellsOf 26)) = xs[4]? := hc 4 _ rfl
  rw [cells26, List.getElem?_eq_getElem (show 4 < xs.length by rw [hxl]; decide)] at g4
  obtain ⟨ka, key, kc, e0, k1⟩ := cell_bytes g0
  obtain ⟨seq, e1, _, w1⟩ := DataW.trod_int Tryd.underlying2 g1
  obtain ⟨gone, e2, _⟩ := DataW.trod_bool Tryd.underlying4 g2
  obtain ⟨till, e3, _, w3⟩ := DataW.trod_int Tryd.underlying2 g3
  obtain ⟨va, vl, vc, e4, k2⟩ := cell_bytes g4
  have h0 : [a] = [Value.slice ka key.length kc] := e0
  have h1 : [b] = [Value.int .i64 seq] := e1
  have h2 : [c] = [Value.bool gone] := e2
  have h3 : [d] = [Value.int .i64 till] := e3
  have h4 : [e] = [Value.slice va vl.length vc] := e4
  simp only [List.cons.injEq, and_true] at h0 h1 h2 h3 h4
  subst h0 h1 h2 h3 h4
  exact ⟨⟨key, seq, gone, till, vl⟩, ka, kc, va, vc, rfl, k1, k2, wf_i64 w1, wf_i64 w3⟩
set_option maxRecDepth 100000 in
/-- A slice of entries, as a cell. -/
theorem cell_ents {fuel : Nat} {cs : List Value} {x : DataW H × List MemPlace} (hf : DataW.trod enc Tryd.prog W base spare held fuel 22 cs = some x) :
    ∃ (ao : Option Addr) (len cap : Nat) (os : List EntV), cs = [.slice ao len cap] ∧ RS entE W ao len cap os := by
  rcases open_slice Tryd.underlying22 hf with ⟨hcs, _⟩ | ⟨a, len, cap, m, n, D, Pl, hcs, hb, hl, hm, hmm, _, hc⟩
  · exact ⟨none, 0, 0, [], hcs, RS.nil W⟩
  · have hlm : len ≤ m := by rw [hmm]; split <;> omega
    rw [cellsEntry] at hc
    by_cases h0 : len = 0
    · subst h0
      exact ⟨some a, 0, cap, [], hcs, [], rfl, (fun e => by cases e), hl, hm, rfl, fun j u hu => by simp at hu⟩
    obtain ⟨b, off, spot⟩ := a
    have hspot : spot = none := by
      obtain ⟨cs0, h10, h20⟩ := hc 0 (by omega)
      obtain ⟨_, hl40, hcell0⟩ := World.cells?_some h10
      have h0 := hcell0 0 (by decide)
      rw [List.getElem?_eq_getElem (by omega)] at h0
      simpa [Addr.add] using World.cell?_spot h0
    subst hspot
    obtain ⟨os, us, q1, q2, q3⟩ := lay_of (E := entE) (w := W) (b := b) (off := off) len (fun k hk => by
      obtain ⟨cs', h1, h2⟩ := hc k (by omega)
      obtain ⟨_, hl4, hcell⟩ := World.cells?_some h1
      obtain ⟨o, ho⟩ := open_ent h2
      refine ⟨o, cs', ho, fun j v hj => ?_⟩
      have hj4 : j < 5 := by
        have := (List.getElem?_eq_some_iff.1 hj).1
        omega
      have := hcell j hj4
      rw [Addr.add_lit, Addr.add_lit] at this
      show W.cell? ⟨b, off + (k * 5 + j), none⟩ = some v
      rw [← Nat.add_assoc, this]
      exact hj)
    exact ⟨some ⟨b, off, none⟩, len, cap, os, hcs, us, q1, (fun e => by cases e), hl, hm, q2, fun j u hu => ⟨b, off, rfl, q3 j u hu⟩⟩
/-- A row of entries that came in. -/
theorem open22 {v : Value} {d : DataW H} {ps : List MemPlace} (hv : Value.okWide Tryd.prog W .any base 22 v) (h : DataW.Trod enc Tryd.prog W 0 (fun _ => true) true 22 v d ps) :
    ∃ (ao : Option Addr) (len cap : Nat) (os : List EntV), v = .slice ao len cap ∧ RS entE W ao len cap os := by
  obtain ⟨a, len, cap, rfl⟩ := okWide_slice Tryd.underlying22 hv
  obtain ⟨fuel, hf⟩ := h
  obtain ⟨ao, len', cap', os, e, hr⟩ := cell_ents hf
  have e' : [Value.slice a len cap] = [Value.slice ao len' cap'] := e
  simp only [List.cons.injEq, and_true] at e'
  exact ⟨ao, len', cap', os, e', hr⟩
end
end Go.Proofs.YtaefddnmldbgiaaDoor

/- Keys in order, each with its entries: what a skip list holds, told purely. -/
namespace Go.Proofs.YtaefddnmldbgiaaDoor
set_option linter.unusedVariables false
set_option linter.unusedSimpArgs false

/-- An entry of a key: its block, what it holds. -/
structure Vr where
  b : Nat
  seq : Int
  gone : Bool
  till : Int
  vv : Value
  val : List Int
/-- A key: its block, its bytes, its height, its entries by number. -/
structure Nd where
  b : Nat
  key : List Int
  kv : Value
  h : Nat
  vs : List Vr
  rv : Value
def Vr.ent (k : List Int) (v : Vr) : EntV := ⟨k, v.seq, v.gone, v.till, v.val⟩
def Nd.ents (n : Nd) : List EntV := (n.vs.map (Vr.ent n.key)).reverse
def flat (ns : List Nd) : List EntV := ns.flatMap Nd.ents
theorem flat_app (a b : List Nd) : flat (a ++ b) = flat a ++ flat b := by simp [flat]
theorem flat_cons (n : Nd) (b : List Nd) : flat (n :: b) = n.ents ++ flat b := by simp [flat]
theorem flat_nil : flat [] = [] := rfl
theorem ents_key {n : Nd} {e : EntV} (h : e ∈ n.ents) : e.key = n.key ∧ ∃ v ∈ n.vs, e = v.ent n.key := by
  unfold Nd.ents at h
  rw [List.mem_reverse, List.mem_map] at h
  obtain ⟨v, hv, rfl⟩ := h
  exact ⟨rfl, v, hv, rfl⟩
theorem flat_key {ns : List Nd} {e : EntV} (h : e ∈ flat ns) : ∃ n ∈ ns, e ∈ n.ents ∧ e.key = n.key := by
  unfold flat at h
  rw [List.mem_flatMap] at h
  obtain ⟨n, hn, he⟩ := h
  exact ⟨n, hn, he, (ents_key he).1⟩
/-- Keys rise, and the numbers of each. -/
def ordN (ns : List Nd) : Prop := ns.Pairwise (fun a b => cmp a.key b.key < 0) ∧ ∀ n ∈ ns, n.vs.Pairwise fun a b => a.seq < b.seq
/-- Where an entry stands between others. -/
theorem put_split {X Y : List EntV} {e : EntV} (h1 : ∀ x ∈ X, ahead x e < 0) (h2 : ∀ y ∈ Y, 0 < ahead y e) : putE (X ++ Y) e = X ++ e :: Y ∧ hasE (X ++ Y) e = false := by
  have ha : atE (X ++ Y) e = X.length := by
    induction X with
    | nil =>
      cases Y with
      | nil => rfl
      | cons y Y => exact atE_cons_ge (by have := h2 y (by simp); omega)
    | cons x X ih =>
      rw [List.cons_append, atE_cons_lt (h1 x (by simp)), ih (fun x hx => h1 x (by simp [hx]))]
      rfl
  refine ⟨?_, ?_⟩
  · unfold putE
    rw [ha]
    simp
  · unfold hasE
    rw [List.any_eq_false]
    intro x hx
    rcases List.mem_append.1 hx with q | q
    · have := h1 x q; simp; omega
    · have := h2 x q; simp; omega
theorem ahead_keylt {a b : EntV} (h : cmp a.key b.key < 0) : ahead a b < 0 := by
  unfold ahead
  rw [if_pos (by omega)]
  exact h
theorem ahead_keygt {a b : EntV} (h : 0 < cmp a.key b.key) : 0 < ahead a b := by
  unfold ahead
  rw [if_pos (by omega)]
  exact h
theorem ahead_samekey {a b : EntV} (h : a.key = b.key) : (b.seq < a.seq → ahead a b < 0) ∧ (a.seq < b.seq → 0 < ahead a b) := by
  unfold ahead
  rw [h, if_neg (by rw [cmp_refl]; omega)]
  constructor
  · intro q; rw [if_pos q]; omega
  · intro q; rw [if_neg (by omega), if_pos q]; omega
/-- A new key. -/
theorem flat_new {A B : List Nd} {n : Nd} {v : Vr} (hA : ∀ a ∈ A, cmp a.key n.key < 0) (hB : ∀ b ∈ B, 0 < cmp b.key n.key) (hn : n.vs = [v]) : flat (A ++ n :: B) = putE (flat (A ++ B)) (v.ent n.key) ∧ hasE (flat (A ++ B)) (v.ent n.key) = false := by
  have := put_split (X := flat A) (Y := flat B) (e := v.ent n.key) (fun x hx => by
      obtain ⟨a, ha, he, hk⟩ := flat_key hx
      exact ahead_keylt (by rw [hk]; exact hA a ha)) (fun x hx => by
      obtain ⟨a, ha, he, hk⟩ := flat_key hx
      exact ahead_keygt (by rw [hk]; exact hB a ha))
  rw [flat_app A B, this.1, flat_app, flat_cons]
  refine ⟨?_, this.2⟩
  simp [Nd.ents, hn]
/-- One more of a key that is there. -/
theorem flat_more {A B : List Nd} {n n' : Nd} {P S : List Vr} {v : Vr} (hA : ∀ a ∈ A, cmp a.key n.key < 0) (hB : ∀ b ∈ B, 0 < cmp b.key n.key) (hn : n.vs = P ++ S) (hk' : n'.key = n.key) (hn' : n'.vs = P ++ v :: S) (hP : ∀ p ∈ P, p.seq < v.seq) (hS : ∀ p ∈ S, v.seq < p.seq) :
    flat (A ++ n' :: B) = putE (flat (A ++ n :: B)) (v.ent n.key) ∧ hasE (flat (A ++ n :: B)) (v.ent n.key) = false := by
  have e1 : flat (A ++ n :: B) = (flat A ++ (S.map (Vr.ent n.key)).reverse) ++ ((P.map (Vr.ent n.key)).reverse ++ flat B) := by
    rw [flat_app, flat_cons]
    simp [Nd.ents, hn]
  have e2 : flat (A ++ n' :: B) = (flat A ++ (S.map (Vr.ent n.key)).reverse) ++ v.ent n.key :: ((P.map (Vr.ent n.key)).reverse ++ flat B) := by
    rw [flat_app, flat_cons]
    simp [Nd.ents, hn', hk']
  rw [e1, e2]
  have := put_split (X := flat A ++ (S.map (Vr.ent n.key)).reverse) (Y := (P.map (Vr.ent n.key)).reverse ++ flat B) (e := v.ent n.key) (fun x hx => by
      rcases List.mem_append.1 hx with q | q
      · obtain ⟨a, ha, he, hk⟩ := flat_key q
        exact ahead_keylt (by rw [hk]; exact hA a ha)
      · rw [List.mem_reverse, List.mem_map] at q
        obtain ⟨p, hp, rfl⟩ := q
        exact (ahead_samekey (a := p.ent n.key) (b := v.ent n.key) rfl).1 (hS p hp)) (fun x hx => by
      rcases List.mem_append.1 hx with q | q
      · rw [List.mem_reverse, List.mem_map] at q
        obtain ⟨p, hp, rfl⟩ := q
        exact (ahead_samekey (a := p.ent n.key) (b := v.ent n.key) rfl).2 (hP p hp)
      · obtain ⟨a, ha, he, hk⟩ := flat_key q
        exact ahead_keygt (by rw [hk]; exact hB a ha))
  exact ⟨this.1.symm, this.2⟩
theorem flat_has {A B : List Nd} {n : Nd} {v : Vr} {e : EntV} (hv : v ∈ n.vs) (hk : e.key = n.key) (hs : e.seq = v.seq) : hasE (flat (A ++ n :: B)) e = true := by
  unfold hasE
  rw [List.any_eq_true]
  refine ⟨v.ent n.key, ?_, ?_⟩
  · rw [flat_app, flat_cons]
    exact List.mem_append.2 (.inr (List.mem_append.2 (.inl (by unfold Nd.ents; rw [List.mem_reverse]; exact List.mem_map.2 ⟨v, hv, rfl⟩))))
  · simp only [decide_eq_true_eq]
    exact ahead_zero.2 ⟨hk.symm, hs.symm⟩
theorem wts_flat_put (l : List EntV) (e : EntV) : wts (putE l e) = wts l + wtE e := by
  have : ∀ a b : List EntV, wts (a ++ e :: b) = wts (a ++ b) + wtE e := fun a b => by
    rw [wts_app, wts_app, wts]
    omega
  unfold putE
  rw [this, List.take_append_drop]
/-- Where a number stands among a key's. -/
def plc (vs : List Vr) (s : Int) : Nat := (vs.takeWhile fun v => v.seq < s).length
def the (vs : List Vr) (s : Int) : Bool := match vs[plc vs s]? with
  | some v => decide (v.seq = s)
  | none => false
/-- The newest that is not newer. -/
def atO (vs : List Vr) (s : Int) : Option Vr := if the vs s = true then vs[plc vs s]? else if plc vs s = 0 then none else vs[plc vs s - 1]?
theorem plc_le (vs : List Vr) (s : Int) : plc vs s ≤ vs.length := (List.takeWhile_prefix _).length_le
theorem plc_take (vs : List Vr) (s : Int) : vs.take (plc vs s) = vs.takeWhile fun v => v.seq < s := by
  unfold plc
  conv => lhs; arg 2; rw [← List.takeWhile_append_dropWhile (p := fun v : Vr => decide (v.seq < s)) (l := vs)]
  rw [List.take_left']
  rfl
theorem mem_tw {p : Vr → Bool} : ∀ {l : List Vr} {v : Vr}, v ∈ l.takeWhile p → p v = true
  | [], v, h => by simp at h
  | x :: r, v, h => by
    rw [List.takeWhile_cons] at h
    split at h
    · rcases List.mem_cons.1 h with e | e
      · subst e; assumption
      · exact mem_tw e
    · simp at h
theorem plc_before {vs : List Vr} {s : Int} : ∀ v ∈ vs.take (plc vs s), v.seq < s := fun v hv => by
  rw [plc_take] at hv
  have := mem_tw hv
  simpa using this
theorem plc_at {vs : List Vr} {s : Int} {v : Vr} (h : vs[plc vs s]? = some v) : s ≤ v.seq := by
  have hi := (List.getElem?_eq_some_iff.1 h).1
  have e : vs.takeWhile (fun v => v.seq < s) ++ vs.dropWhile (fun v => v.seq < s) = vs := List.takeWhile_append_dropWhile
  have h2 : (vs.dropWhile fun v => v.seq < s)[0]? = some v := by
    have := h
    rw [← e] at this
    rw [List.getElem?_append_right (by unfold plc; rw [e]; exact Nat.le_refl _)] at this
    rw [e] at this
    unfold plc at this
    simpa using this
  cases hd : vs.dropWhile (fun v => v.seq < s) with
  | nil => rw [hd] at h2; simp at h2
  | cons y ys =>
    rw [hd] at h2
    obtain rfl : y = v := by simpa using h2
    have := List.head_dropWhile_not (p := fun v : Vr => decide (v.seq < s)) (l := vs) (by rw [hd]; simp)
    simp only [hd, List.head_cons, decide_eq_false_iff_not] at this
    omega
theorem plc_after {vs : List Vr} (ho : vs.Pairwise fun a b => a.seq < b.seq) {s : Int} : ∀ v ∈ vs.drop (plc vs s), s ≤ v.seq := fun v hv => by
  obtain ⟨j, hj, rfl⟩ := List.getElem_of_mem hv
  rw [List.length_drop] at hj
  rw [List.getElem_drop]
  have h0 : plc vs s < vs.length := by omega
  have h1 := plc_at (s := s) (List.getElem?_eq_getElem h0)
  rcases Nat.eq_zero_or_pos j with q | q
  · subst q; simpa using h1
  · have := List.pairwise_iff_getElem.1 ho _ _ h0 (by omega : plc vs s + j < vs.length) (by omega)
    omega
/-- Found by the place alone. -/
theorem plc_eq {vs : List Vr} (ho : vs.Pairwise fun a b => a.seq < b.seq) {s : Int} {i : Nat} (hi : i ≤ vs.length) (h1 : ∀ j (hj : j < vs.length), j < i → vs[j].seq < s) (h2 : ∀ j (hj : j < vs.length), i ≤ j → s ≤ vs[j].seq) : plc vs s = i := by
  have hl := plc_le vs s
  rcases Nat.lt_trichotomy (plc vs s) i with q | q | q
  · have a := h1 (plc vs s) (by omega) q
    have b := plc_at (s := s) (List.getElem?_eq_getElem (by omega : plc vs s < vs.length))
    omega
  · exact q
  · have a := h2 i (by omega) (Nat.le_refl _)
    have b := plc_before (vs := vs) (s := s) vs[i] (List.mem_take_iff_getElem.2 ⟨i, by omega, rfl⟩)
    omega
theorem the_false {vs : List Vr} (ho : vs.Pairwise fun a b => a.seq < b.seq) {s : Int} (h : the vs s = false) : ∀ v ∈ vs.drop (plc vs s), s < v.seq := fun v hv => by
  obtain ⟨j, hj, rfl⟩ := List.getElem_of_mem hv
  rw [List.length_drop] at hj
  rw [List.getElem_drop]
  have h0 : plc vs s < vs.length := by omega
  have h1 := plc_at (s := s) (List.getElem?_eq_getElem h0)
  unfold the at h
  rw [List.getElem?_eq_getElem h0] at h
  have h2 : vs[plc vs s].seq ≠ s := by simpa using h
  rcases Nat.eq_zero_or_pos j with q | q
  · subst q; simp only [Nat.add_zero]; omega
  · have := List.pairwise_iff_getElem.1 ho _ _ h0 (by omega : plc vs s + j < vs.length) (by omega)
    omega
theorem the_true {vs : List Vr} {s : Int} (h : the vs s = true) : ∃ v, vs[plc vs s]? = some v ∧ v.seq = s := by
  unfold the at h
  split at h
  · exact ⟨_, by assumption, by simpa using h⟩
  · cases h
theorem find_split {P S : List Vr} {s : Int} {k : List Int} (h1 : ∀ p ∈ P, p.seq ≤ s) (h2 : ∀ p ∈ S, s < p.seq) : (((P ++ S).map (Vr.ent k)).reverse.find? fun e => decide (e.seq ≤ s)) = P.getLast?.map (Vr.ent k) := by
  rw [List.map_append, List.reverse_append, List.find?_append]
  have : (S.map (Vr.ent k)).reverse.find? (fun e => decide (e.seq ≤ s)) = none := by
    rw [List.find?_eq_none]
    intro x hx
    rw [List.mem_reverse, List.mem_map] at hx
    obtain ⟨p, hp, rfl⟩ := hx
    have hq : ¬ p.seq ≤ s := by have := h2 p hp; omega
    first | exact (fun e => hq (of_decide_eq_true e)) | exact decide_eq_false hq
  rw [this, Option.none_or, ← List.map_reverse]
  rcases List.eq_nil_or_concat P with rfl | ⟨P', p, rfl⟩
  · simp
  · have := h1 p (by simp)
    simp [Vr.ent, this]
theorem find_at {vs : List Vr} (ho : vs.Pairwise fun a b => a.seq < b.seq) (s : Int) (k : List Int) : (((vs.map (Vr.ent k)).reverse).find? fun e => decide (e.seq ≤ s)) = (atO vs s).map (Vr.ent k) := by
  unfold atO
  by_cases q : the vs s = true
  · rw [if_pos q]
    obtain ⟨v, hv, hs⟩ := the_true q
    have hl := (List.getElem?_eq_some_iff.1 hv).1
    have e : vs = vs.take (plc vs s + 1) ++ vs.drop (plc vs s + 1) := (List.take_append_drop _ _).symm
    conv => lhs; rw [e]
    rw [find_split (fun p hp => ?_) (fun p hp => ?_)]
    · rw [List.take_add_one, hv]
      simp
    · rw [List.take_add_one, hv] at hp
      rcases List.mem_append.1 hp with a | a
      · have := plc_before p a; omega
      · obtain rfl : p = v := by simpa using a
        omega
    · obtain ⟨j, hj, rfl⟩ := List.getElem_of_mem hp
      rw [List.length_drop] at hj
      rw [List.getElem_drop]
      have := List.pairwise_iff_getElem.1 ho (plc vs s) (plc vs s + 1 + j) hl (by omega) (by omega)
      have e2 : vs[plc vs s] = v := (List.getElem?_eq_some_iff.1 hv).2
      rw [e2] at this
      omega
  · rw [if_neg q]
    have q' : the vs s = false := by simpa using q
    have e : vs = vs.take (plc vs s) ++ vs.drop (plc vs s) := (List.take_append_drop _ _).symm
    conv => lhs; rw [e]
    rw [find_split (fun p hp => by have := plc_before p hp; omega) (the_false ho q')]
    have hl := plc_le vs s
    by_cases z : plc vs s = 0
    · rw [if_pos z, z]; simp
    · rw [if_neg z, List.getLast?_eq_getElem?, List.length_take, List.getElem?_take, if_pos (by omega), Nat.min_eq_left hl]
theorem atO_mem {vs : List Vr} {s : Int} {v : Vr} (h : atO vs s = some v) : v ∈ vs := by
  unfold atO at h
  split at h
  · exact List.mem_of_getElem? h
  · split at h
    · cases h
    · exact List.mem_of_getElem? h
end Go.Proofs.YtaefddnmldbgiaaDoor

/- What the library's IndexByte, Count and Compare answer on slices of bytes, as lists. -/
namespace Go.Proofs.YtaefddnmldbgiaaDoor
open Go.RowKit
set_option linter.unusedVariables false
set_option linter.unusedSimpArgs false

/-- What an entry of the model reads off a slice of bytes. -/
theorem ext_bytes {w : World} {ao : Option Addr} {len cap : Nat} {xs : List Int} (h : Sl w ao len cap xs) : (Extern.Bytes.bytesOf (.slice ao len cap)).run Tryd.prog w = .ok ⟨(Lib.bytesOf xs).toArray⟩ w := by
  cases ao with
  | none =>
    have e := (h.2.2.1 rfl).1
    have hx := h.1
    rw [e] at hx
    rw [List.length_eq_zero_iff.1 hx]
    rfl
  | some a =>
    have hl := Lib.run_loadBytesX (P := Tryd.prog) w xs a .empty (fun j x hj => by
      have hjl : j < xs.length := (List.getElem?_eq_some_iff.1 hj).1
      obtain ⟨_, b, off, e, hc⟩ := h.2.2.2.2.2 j (by rw [← h.1]; exact hjl)
      simp only [Option.some.injEq] at e
      subst e
      have e2 : (⟨b, off, none⟩ : Addr).add j = ⟨b, off + j, none⟩ := by unfold Addr.add; split <;> simp_all
      rw [e2, hc, ← xof_at h.2.1 hjl]
      rw [List.getElem?_eq_getElem hjl] at hj
      simpa using hj)
    rw [h.1] at hl
    have he : (⟨ByteArray.empty.data ++ (Lib.bytesOf xs).toArray⟩ : ByteArray) = ⟨(Lib.bytesOf xs).toArray⟩ := by
      apply ByteArray.ext
      show (#[] : Array UInt8) ++ (Lib.bytesOf xs).toArray = (Lib.bytesOf xs).toArray
      simp
    rw [he] at hl
    exact hl

/-- How many bytes stand ahead of the first nought. -/
def fz (xs : List Int) : Nat := (xs.takeWhile (fun x => x ≠ 0)).length
def ix (xs : List Int) : Int := if fz xs < xs.length then (fz xs : Int) else -1
theorem fz_nil : fz [] = 0 := rfl
theorem fz_zero (r : List Int) : fz (0 :: r) = 0 := by simp [fz]
theorem fz_cons {x : Int} (h : x ≠ 0) (r : List Int) : fz (x :: r) = fz r + 1 := by simp [fz, h]
theorem fz_le : ∀ xs : List Int, fz xs ≤ xs.length
  | [] => Nat.le_refl _
  | x :: r => by
    have := fz_le r
    by_cases q : x = 0
    · subst q; rw [fz_zero]; omega
    · rw [fz_cons q, List.length_cons]; omega
theorem fz_at : ∀ {xs : List Int} (h : fz xs < xs.length), xs[fz xs] = 0
  | [], h => by cases h
  | x :: r, h => by
    by_cases q : x = 0
    · subst q
      simp [fz_zero]
    · have h' : fz r < r.length := by rw [fz_cons q, List.length_cons] at h; omega
      have ih := fz_at h'
      simp only [fz_cons q, List.getElem_cons_succ]
      exact ih
theorem fz_before : ∀ {xs : List Int} {k : Nat} (h : k < fz xs) (hk : k < xs.length), xs[k] ≠ 0
  | [], _, h, hk => by cases hk
  | x :: r, k, h, hk => by
    by_cases q : x = 0
    · subst q; rw [fz_zero] at h; cases h
    · rw [fz_cons q] at h
      cases k with
      | zero => simpa using q
      | succ k =>
        rw [List.getElem_cons_succ]
        exact fz_before (by omega) (by simp at hk; omega)
theorem byte_zero {x : Int} (h : 0 ≤ x ∧ x < 256) : (UInt8.ofNat x.toNat == (0 : UInt8)) = decide (x = 0) := by
  rw [Bool.eq_iff_iff, beq_iff_eq, decide_eq_true_eq]
  constructor
  · intro e
    have := congrArg UInt8.toNat e
    rw [UInt8.toNat_ofNat'] at this
    simp only [Nat.reducePow] at this
    rw [Nat.mod_eq_of_lt (by omega)] at this
    have e0 : (0 : UInt8).toNat = 0 := rfl
    omega
  · intro e
    subst e
    rfl
theorem ix_eq : ∀ {xs : List Int}, Okb xs → Lib.indexByte (Lib.bytesOf xs) 0 = ix xs
  | [], _ => rfl
  | x :: r, h => by
    have ih := ix_eq h.tail
    have hb := byte_zero h.head
    have e : Lib.bytesOf (x :: r) = UInt8.ofNat x.toNat :: Lib.bytesOf r := rfl
    rw [e, Lib.indexByte, hb, ih]
    by_cases q : x = 0
    · subst q
      simp [ix, fz_zero]
    · have hle := fz_le r
      unfold ix
      rw [fz_cons q, List.length_cons]
      by_cases z : fz r < r.length
      · have h1 : ((fz r : Int) == -1) = false := by rw [beq_eq_false_iff_ne]; omega
        have z1 : fz r + 1 < r.length + 1 := by omega
        simp [q, h1, z, z1]
      · have z1 : ¬ fz r + 1 < r.length + 1 := by omega
        simp [q, z, z1]

theorem ext_index {w : World} {ao : Option Addr} {len cap : Nat} {xs : List Int} (h : Sl w ao len cap xs) : (Extern.BytealgIndexByte.indexByte #[.slice ao len cap, .int .u8 0]).run Tryd.prog w = .ok (.int .i64 (ix xs)) w := by
  have hl := ext_bytes h
  have hs := Lib.run_indexByteString (P := Tryd.prog) ⟨(Lib.bytesOf xs).toArray⟩ 0 w
  have e0 : (0 : Int).toNat.toUInt8 = 0 := rfl
  rw [e0] at hs
  simp only [ix_eq h.2.1] at hs
  change Sem.run Tryd.prog (do
    let b ← Extern.Bytes.bytesOf (.slice ao len cap)
    let c ← Extern.Bytes.asByte (.int .u8 0)
    match (List.range b.size).find? fun i => b[i]! == c with
    | some i => pure (goInt i)
    | none => pure (goInt (-1))) w = _
  change Sem.run Tryd.prog (do
    let b ← Extern.Bytes.bytesOf (.string ⟨(Lib.bytesOf xs).toArray⟩)
    let c ← Extern.Bytes.asByte (.int .u8 0)
    match (List.range b.size).find? fun i => b[i]! == c with
    | some i => pure (goInt i)
    | none => pure (goInt (-1))) w = _ at hs
  rw [Sem.run_bind, hl]
  have e1 : (Extern.Bytes.bytesOf (.string ⟨(Lib.bytesOf xs).toArray⟩)).run Tryd.prog w = .ok ⟨(Lib.bytesOf xs).toArray⟩ w := rfl
  rw [Sem.run_bind, e1] at hs
  exact hs

/-- How many noughts. -/
def cz (xs : List Int) : Nat := Lib.countByte (Lib.bytesOf xs) 0
theorem cz_le (xs : List Int) : cz xs ≤ xs.length := by
  unfold cz Lib.countByte
  refine Nat.le_trans List.count_le_length ?_
  simp [Lib.bytesOf]
theorem ext_count {w : World} {ao : Option Addr} {len cap : Nat} {xs : List Int} (h : Sl w ao len cap xs) : (Extern.BytealgCount.count #[.slice ao len cap, .int .u8 0]).run Tryd.prog w = .ok (.int .i64 (cz xs : Int)) w := by
  have hl := ext_bytes h
  have hs := Lib.run_countString (P := Tryd.prog) ⟨(Lib.bytesOf xs).toArray⟩ 0 w
  change Sem.run Tryd.prog (do
    let b ← Extern.Bytes.bytesOf (.slice ao len cap)
    let c' ← Extern.Bytes.asByte (.int .u8 0)
    pure (goInt (b.foldl (fun n x => if x == c' then n + 1 else n) (0 : Nat)))) w = _
  change Sem.run Tryd.prog (do
    let b ← Extern.Bytes.bytesOf (.string ⟨(Lib.bytesOf xs).toArray⟩)
    let c' ← Extern.Bytes.asByte (.int .u8 0)
    pure (goInt (b.foldl (fun n x => if x == c' then n + 1 else n) (0 : Nat)))) w = _ at hs
  rw [Sem.run_bind, hl]
  have e1 : (Extern.Bytes.bytesOf (.string ⟨(Lib.bytesOf xs).toArray⟩)).run Tryd.prog w = .ok ⟨(Lib.bytesOf xs).toArray⟩ w := rfl
  rw [Sem.run_bind, e1] at hs
  exact hs

theorem cmp_bytes : ∀ {xs ys : List Int}, Okb xs → Okb ys → Lib.compareBytes (Lib.bytesOf xs) (Lib.bytesOf ys) = cmp xs ys
  | [], [], _, _ => rfl
  | [], y :: ys, _, _ => by simp [Lib.bytesOf, Lib.compareBytes, cmp]
  | x :: xs, [], _, _ => by simp [Lib.bytesOf, Lib.compareBytes, cmp]
  | x :: xs, y :: ys, hx, hy => by
    have ih := cmp_bytes hx.tail hy.tail
    have h1 := hx.head
    have h2 := hy.head
    have e1 : (UInt8.ofNat x.toNat).toNat = x.toNat := by
      rw [UInt8.toNat_ofNat']
      simp only [Nat.reducePow]
      exact Nat.mod_eq_of_lt (by omega)
    have e2 : (UInt8.ofNat y.toNat).toNat = y.toNat := by
      rw [UInt8.toNat_ofNat']
      simp only [Nat.reducePow]
      exact Nat.mod_eq_of_lt (by omega)
    have d1 : Lib.bytesOf (x :: xs) = UInt8.ofNat x.toNat :: Lib.bytesOf xs := rfl
    have d2 : Lib.bytesOf (y :: ys) = UInt8.ofNat y.toNat :: Lib.bytesOf ys := rfl
    rw [d1, d2, Lib.compareBytes, ih]
    rcases Int.lt_trichotomy x y with h | h | h
    · have l1 : UInt8.ofNat x.toNat < UInt8.ofNat y.toNat := by rw [UInt8.lt_iff_toNat_lt, e1, e2]; omega
      rw [cmp_less h]
      simp [l1]
    · subst h
      rw [cmp_same]
      have l0 : ¬ UInt8.ofNat x.toNat < UInt8.ofNat x.toNat := UInt8.lt_irrefl _
      simp [l0]
    · have l1 : ¬ UInt8.ofNat x.toNat < UInt8.ofNat y.toNat := by rw [UInt8.lt_iff_toNat_lt, e1, e2]; omega
      have l2 : UInt8.ofNat y.toNat < UInt8.ofNat x.toNat := by rw [UInt8.lt_iff_toNat_lt, e1, e2]; omega
      rw [cmp_more h]
      simp [l1, l2]
theorem ext_cmp {w : World} {ao bo : Option Addr} {la ca lb cb : Nat} {xs ys : List Int} (ha : Sl w ao la ca xs) (hb : Sl w bo lb cb ys) : (Extern.BytealgCompare.compare #[.slice ao la ca, .slice bo lb cb]).run Tryd.prog w = .ok (.int .i64 (cmp xs ys)) w := by
  have h1 := ext_bytes ha
  have h2 := ext_bytes hb
  change Sem.run Tryd.prog (do pure (goInt (Extern.BytealgCompare.cmp (← Extern.Bytes.bytesOf (.slice ao la ca)) (← Extern.Bytes.bytesOf (.slice bo lb cb))))) w = _
  rw [Sem.run_bind, h1]
  simp only [Result.andThen]
  rw [Sem.run_bind, h2]
  simp only [Result.andThen, Sem.run_pure]
  rw [Lib.cmp_eq]
  show Result.ok (goInt (Lib.compareBytes (Lib.bytesOf xs) (Lib.bytesOf ys))) w = _
  rw [cmp_bytes ha.2.1 hb.2.1]
  rfl
set_option maxHeartbeats 1000000 in
set_option maxRecDepth 100000 in
theorem compare_l {w : World} {ao bo : Option Addr} {la ca lb cb : Nat} {xs ys : List Int} (ha : Sl w ao la ca xs) (hb : Sl w bo lb cb ys) : Calls Tryd.prog 45 #[.slice ao la ca, .slice bo lb cb] w fun e w' => e = .returned (.int .i64 (cmp xs ys)) ∧ w' = w := by
  have hx := ext_cmp ha hb
  clear ha hb
  go_enter Tryd.func45, Tryd.ntmps45
  go_wp2
  rw [run_callFunc_extern Tryd.func52 (by kernel_rfl) (by kernel_rfl) (by kernel_rfl) (e := Extern.BytealgCompare.compare) (by kernel_rfl), hx]
  simp only [Result.andThen]
  rw [Oper.upon_value]
  go_wp2
  go_ret
  exact ⟨rfl, rfl⟩
/-- A run of bytes that are no noughts. -/
theorem J.run {xs out : List Int} {i : Nat} (h : J xs out i) : ∀ (r : Nat), i + r ≤ xs.length → (∀ k, i ≤ k → k < i + r → ∀ hk : k < xs.length, xs[k] ≠ 0) → J xs (out ++ (xs.drop i).take r) (i + r)
  | 0, _, _ => by simpa using h
  | r + 1, h1, h2 => by
    have ih := J.run h r (by omega) fun k a b hk => h2 k a (by omega) hk
    have := ih.plain (by omega) (h2 (i + r) (by omega) (by omega) (by omega))
    have e : (xs.drop i).take (r + 1) = (xs.drop i).take r ++ [xs[i + r]'(by omega)] := by
      rw [List.take_add_one, List.getElem?_drop, List.getElem?_eq_getElem (by omega)]
      rfl
    rw [e, ← List.append_assoc]
    exact this
end Go.Proofs.YtaefddnmldbgiaaDoor

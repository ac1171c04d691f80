import Derived.Deep.RegionHeldLaw
import Derived.Test.YtligofmcmjblpaaPk03
import Derived.Test.YtligofmcmjblpaaPk11
/- The document's own disk: Crash. -/
namespace Go.Proofs.Ytligofmcmjblpaa
open Go.RowKit
set_option linter.unusedVariables false
set_option linter.unusedSimpArgs false

theorem WRow.cells {B : Nat} {w : World} {v : Value} {vs : List Value} (h : WRow B w v vs) (hp : 0 < vs.length) : ∃ g c, v = .slice (some ⟨g, 0, none⟩) vs.length c ∧ vs.length ≤ c ∧ ∀ (k : Nat) (x : Value), vs[k]? = some x → w.cell? ⟨g, k, none⟩ = some x := by
  have hcells : ∀ g, v.ownBlock = some g → _ := fun g hg => World.ownsRow.cells h (g := g) hg
  rcases h.2 with ⟨e, h0⟩ | ⟨g, cap, cur, rfl, hb, hg, h1, h2, h3, h4⟩
  · omega
  · refine ⟨g, cap, rfl, h1, fun k x hx => ?_⟩
    have := hcells g rfl k x hx
    rw [Addr.add_lit, Nat.zero_add] at this
    exact this
theorem DRow.slice2 {B : Nat} {w : World} {loc : Nat → Nat} {v : Value} {l : List Ent} (h : DRow B w loc v l) : ∃ ao c, v = .slice ao l.length c := by
  rcases h.2 with ⟨rfl, e⟩ | ⟨g, cap, cur, rfl, _⟩
  · exact ⟨none, 0, by rw [e]⟩
  · exact ⟨_, _, rfl⟩
theorem step_app {ops : Array Oper} {w : World} {o : Oper} {a : Act} {K : Act → World → Prop} {Q : Exit → Act → World → Prop} {E : Prop} (hgd : o.guard = none) (s x : Operand)
    (ho : o.op = .call { callee := .builtin .append, args := #[s, x], argTypes := #[26, 26] }) (B : Nat) (v : Value) (xs : List Int) (hs : a.eval s = v) (hrow : Row B w v xs)
    (ao : Option Addr) (m c : Nat) (X : Nat → Nat) (hx : a.eval x = .slice ao m c) (hnil : ao = none → m = 0 ∧ c = 0) (hby : Byt w ao m X) (hb : xs.length + m ≤ 140737488355328) (hbase : B ≤ w.heap.size)
    (h : ∀ ao' n' c' w', Row B w' (.slice ao' n' c') (xs ++ bs X m) → w.grownBy w' v.ownBlock → K (a.put o.dst (.slice ao' n' c')) w') :
    if Region.wanted o (yielded ops a.tmps) = true then Oper.wp Try.prog o a w K Q else E := by
  have hw : Region.wanted o (yielded ops a.tmps) = true := by simp [Region.wanted, hgd]
  rw [if_pos hw]
  refine wp_app s x ho B v xs hs hrow ao m c X hx hnil hby hb hbase fun v' w' h2 h3 _ => ?_
  obtain ⟨o1, o2, o3, rfl⟩ := Row.slice h2
  exact h _ _ _ _ h2 h3
theorem FileR.facts {w : World} {F : Nat → Prop} {g : Nat} {data : List Int} {sure : Nat} (h : FileR w F g (data, sure)) (ho : Okb data) :
    ∃ ao cap, (ao = none → data.length = 0 ∧ cap = 0) ∧ data.length ≤ cap ∧ cap ≤ maxLen ∧ Byt w ao data.length (xof data) ∧ w.cell? ⟨g, 0, none⟩ = some (.slice ao data.length cap) ∧ w.cell? ⟨g, 1, none⟩ = some (.int .i64 (sure : Int)) := by
  obtain ⟨dv, x1, x2, x3⟩ := h.ex
  obtain ⟨ao, cap, rfl, x4, x5, x6, x7⟩ := x2.byt ho
  exact ⟨ao, cap, x4, x5, x6, x7, cell_of x1 0, cell_of x1 1⟩
theorem DRow.frozen {B : Nat} {w : World} {loc : Nat → Nat} {g n c : Nat} {l : List Ent} (h : DRow B w loc (.slice (some ⟨g, 0, none⟩) n c) l) (k : Nat) : w.frozen? ⟨g, k, none⟩ = false := by
  rcases h.2 with ⟨e, _⟩ | ⟨g', cap, cur, e, hb, hg, _⟩
  · cases e
  · simp only [Value.slice.injEq, Option.some.injEq, Addr.mk.injEq, and_true] at e
    obtain ⟨rfl, _, _⟩ := e
    exact frozen_of hg k
theorem cell_set_alloc {w : World} {a : Addr} {u : Value} (h : w.cell? a = some u) {g : Nat} (ne : g ≠ a.block) (k : Nat) (v : Value) (o : Obj) : ((w.setCell ⟨g, k, none⟩ v).alloc o).cell? a = some u := by
  have h1 : (w.setCell ⟨g, k, none⟩ v).cell? a = some u := (World.cell?_setCell_far w ⟨g, k, none⟩ a v ne).trans h
  exact cell_later ((Below.refl _ _).alloc (Nat.le_refl _) o) h1
theorem grow_drew (w : World) (r : Option Nat) : w.grownBy w.drew r := ⟨rfl, rfl, rfl, Nat.le_refl _, fun _ _ _ => rfl⟩

end Go.Proofs.Ytligofmcmjblpaa

/- A call, and what the document's own disk makes of it. -/
namespace Go.Proofs.Ytligofmcmjblpaa
open Go.RowKit
set_option linter.unusedVariables false

/-- A call's values. -/
structure CV where
  op : Int
  name : ByteArray
  other : ByteArray
  dao : Option Addr
  dlen : Nat
  dcap : Nat
  dX : Nat → Nat
  n : Int
  k : Int
  pos : Int
  pao : Option Addr
  plen : Nat
  pcap : Nat
  P : Nat → Int
def CV.cells (c : CV) : Array Value := #[.int .i64 c.op, .string c.name, .string c.other, .slice c.dao c.dlen c.dcap, .int .i64 c.n, .int .i64 c.k, .int .i64 c.pos, .slice c.pao c.plen c.pcap]
def CV.val (c : CV) : Value := .agg c.cells
structure CV.Ok (c : CV) (w : World) : Prop where
  name : c.name.size ≤ 2 ^ 63 - 1
  other : c.other.size ≤ 2 ^ 63 - 1
  byt : Byt w c.dao c.dlen c.dX
  dnil : c.dao = none → c.dlen = 0 ∧ c.dcap = 0
  dl : c.dlen ≤ 2 ^ 63 - 1
  n : -9223372036854775808 ≤ c.n ∧ c.n ≤ 9223372036854775807
  k : -9223372036854775808 ≤ c.k ∧ c.k ≤ 9223372036854775807
  pos : -9223372036854775808 ≤ c.pos ∧ c.pos ≤ 9223372036854775807
  ints : Ints w c.pao c.plen c.P
  pl : c.plen ≤ c.pcap ∧ c.pcap ≤ 2 ^ 63 - 1
/-- The call's memory is not of F. -/
structure CV.Off (c : CV) (F : Nat → Prop) : Prop where
  d : 0 < c.dlen → ∀ a, c.dao = some a → ¬ F a.block
  p : 0 < c.plen → ∀ a, c.pao = some a → ¬ F a.block
def DS.doC (σ : DS) (c : CV) : Int × DS :=
  if c.op = 0 then σ.create c.name
  else if c.op = 1 then σ.append c.name (bs c.dX c.dlen)
  else if c.op = 2 then σ.sync c.name
  else if c.op = 3 then σ.rename c.name c.other
  else if c.op = 4 then σ.remove c.name
  else if c.op = 5 then σ.syncDir
  else if c.op = 6 then (0, σ.setFuse c.n)
  else if c.op = 7 then (0, σ.setFault c.n c.k)
  else if c.op = 8 then (0, σ.crash (is c.P c.plen))
  else (if (σ.spoil c.name c.pos (c.n % 256)).1 = true then 0 else 7, (σ.spoil c.name c.pos (c.n % 256)).2)
theorem Inv.doC {σ : DS} (h : Inv σ) (hl : σ.c.calls < 1048576) (c : CV) {w : World} (hc : c.Ok w) : Inv (σ.doC c).2 := by
  unfold DS.doC
  split
  · exact h.create hl _
  · split
    · exact h.append hl _ _ (okb_bs hc.byt)
    · split
      · exact h.sync hl _
      · split
        · exact h.rename hl _ _
        · split
          · exact h.remove hl _
          · split
            · exact h.syncDir hl
            · split
              · exact h.setFuse _ hc.n.2
              · split
                · exact h.setFault _ _ hc.n.2 hc.k.2
                · split
                  · exact h.crash _
                  · exact h.spoil _ _ _ ⟨by omega, by omega⟩
theorem CV.Ok.later {c : CV} {w w' : World} (h : c.Ok w) (hb : Below w.heap.size w w') : c.Ok w' := ⟨h.name, h.other, h.byt.later hb, h.dnil, h.dl, h.n, h.k, h.pos, h.ints.later hb, h.pl⟩
theorem CV.Ok.kept {c : CV} {w w' : World} {F : Nat → Prop} (h : c.Ok w) (hk : Kept F w w') (ho : c.Off F) : c.Ok w' := ⟨h.name, h.other, h.byt.kept hk ho.d, h.dnil, h.dl, h.n, h.k, h.pos, h.ints.kept hk ho.p, h.pl⟩
theorem CV.Off.of {c : CV} {w : World} {F : Nat → Prop} (h : c.Ok w) (hF : ∀ k, F k → w.heap.size ≤ k) : c.Off F := by
  refine ⟨fun hl a e hf => ?_, fun hl a e hf => ?_⟩
  · obtain ⟨_, b, off, e', hc⟩ := h.byt 0 hl
    rw [e] at e'
    simp only [Option.some.injEq] at e'
    subst e'
    have h1 := World.block_lt_of_cell? w _ hc
    have h2 := hF _ hf
    simp only at h1 h2
    omega
  · obtain ⟨_, b, off, e', hc⟩ := h.ints 0 hl
    rw [e] at e'
    simp only [Option.some.injEq] at e'
    subst e'
    have h1 := World.block_lt_of_cell? w _ hc
    have h2 := hF _ hf
    simp only at h1 h2
    omega
theorem wrapB (n : Int) : IntKind.u8.wrap n = n % 256 := by simp [IntKind.wrap, IntKind.bits, IntKind.signed]

end Go.Proofs.Ytligofmcmjblpaa

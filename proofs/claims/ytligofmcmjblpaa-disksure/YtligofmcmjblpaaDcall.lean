/- A call, and what the document's own disk makes of it. -/
import Derived.Test.YtligofmcmjblpaaDinv
import Derived.Test.YtligofmcmjblpaaRcrash
namespace Go.Proofs.Ytligofmcmjblpaa
open Go.RowKit
set_option linter.unusedVariables false

/-- A call's values. -/
structure CV where
  op : Int
  name : ByteArray
  other : ByteArray
  dao : Option Addr
  dlen : Nat
  dcap : Nat
  dX : Nat → Nat
  n : Int
  k : Int
  pos : Int
  pao : Option Addr
  plen : Nat
  pcap : Nat
  P : Nat → Int
def CV.cells (c : CV) : Array Value := #[.int .i64 c.op, .string c.name, .string c.other, .slice c.dao c.dlen c.dcap, .int .i64 c.n, .int .i64 c.k, .int .i64 c.pos, .slice c.pao c.plen c.pcap]
def CV.val (c : CV) : Value := .agg c.cells
structure CV.Ok (c : CV) (w : World) : Prop where
  name : c.name.size ≤ 2 ^ 63 - 1
  other : c.other.size ≤ 2 ^ 63 - 1
  byt : Byt w c.dao c.dlen c.dX
  dnil : c.dao = none → c.dlen = 0 ∧ c.dcap = 0
  dl : c.dlen ≤ 2 ^ 63 - 1
  n : -9223372036854775808 ≤ c.n ∧ c.n ≤ 9223372036854775807
  k : -9223372036854775808 ≤ c.k ∧ c.k ≤ 9223372036854775807
  pos : -9223372036854775808 ≤ c.pos ∧ c.pos ≤ 9223372036854775807
  ints : Ints w c.pao c.plen c.P
  pl : c.plen ≤ c.pcap ∧ c.pcap ≤ 2 ^ 63 - 1
/-- The call's memory is not of F. -/
structure CV.Off (c : CV) (F : Nat → Prop) : Prop where
  d : 0 < c.dlen → ∀ a, c.dao = some a → ¬ F a.block
  p : 0 < c.plen → ∀ a, c.pao = some a → ¬ F a.block
def DS.doC (σ : DS) (c : CV) : Int × DS :=
  if c.op = 0 then σ.create c.name
  else if c.op = 1 then σ.append c.name (bs c.dX c.dlen)
  else if c.op = 2 then σ.sync c.name
  else if c.op = 3 then σ.rename c.name c.other
  else if c.op = 4 then σ.remove c.name
  else if c.op = 5 then σ.syncDir
  else if c.op = 6 then (0, σ.setFuse c.n)
  else if c.op = 7 then (0, σ.setFault c.n c.k)
  else if c.op = 8 then (0, σ.crash (is c.P c.plen))
  else (if (σ.spoil c.name c.pos (c.n % 256)).1 = true then 0 else 7, (σ.spoil c.name c.pos (c.n % 256)).2)
theorem Inv.doC {σ : DS} (h : Inv σ) (hl : σ.c.calls < 1048576) (c : CV) {w : World} (hc : c.Ok w) : Inv (σ.doC c).2 := by
  unfold DS.doC
  split
  · exact h.create hl _
  · split
    · exact h.append hl _ _ (okb_bs hc.byt)
    · split
      · exact h.sync hl _
      · split
        · exact h.rename hl _ _
        · split
          · exact h.remove hl _
          · split
            · exact h.syncDir hl
            · split
              · exact h.setFuse _ hc.n.2
              · split
                · exact h.setFault _ _ hc.n.2 hc.k.2
                · split
                  · exact h.crash _
                  · exact h.spoil _ _ _ ⟨by omega, by omega⟩
theorem CV.Ok.later {c : CV} {w w' : World} (h : c.Ok w) (hb : Below w.heap.size w w') : c.Ok w' := ⟨h.name, h.other, h.byt.later hb, h.dnil, h.dl, h.n, h.k, h.pos, h.ints.later hb, h.pl⟩
theorem CV.Ok.kept {c : CV} {w w' : World} {F : Nat → Prop} (h : c.Ok w) (hk : Kept F w w') (ho : c.Off F) : c.Ok w' := ⟨h.name, h.other, h.byt.kept hk ho.d, h.dnil, h.dl, h.n, h.k, h.pos, h.ints.kept hk ho.p, h.pl⟩
theorem CV.Off.of {c : CV} {w : World} {F : Nat → Prop} (h : c.Ok w) (hF : ∀ k, F k → w.heap.size ≤ k) : c.Off F := by
  refine ⟨fun hl a e hf => ?_, fun hl a e hf => ?_⟩
  · obtain ⟨_, b, off, e', hc⟩ := h.byt 0 hl
    rw [e] at e'
    simp only [Option.some.injEq] at e'
    subst e'
    have h1 := World.block_lt_of_cell? w _ hc
    have h2 := hF _ hf
    simp only at h1 h2
    omega
  · obtain ⟨_, b, off, e', hc⟩ := h.ints 0 hl
    rw [e] at e'
    simp only [Option.some.injEq] at e'
    subst e'
    have h1 := World.block_lt_of_cell? w _ hc
    have h2 := hF _ hf
    simp only at h1 h2
    omega
theorem wrapB (n : Int) : IntKind.u8.wrap n = n % 256 := by simp [IntKind.wrap, IntKind.bits, IntKind.signed]

end Go.Proofs.Ytligofmcmjblpaa

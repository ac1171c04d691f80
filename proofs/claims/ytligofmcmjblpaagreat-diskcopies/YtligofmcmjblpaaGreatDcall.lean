/- A call, and what the document's own disk makes of it. -/
import Derived.Test.YtligofmcmjblpaaGreatDinv
import Derived.Test.YtligofmcmjblpaaGreatRcrash
namespace Go.Proofs.YtligofmcmjblpaaGreat
open Go.RowKit
set_option linter.unusedVariables false

/-- A call's values. -/
structure CV where
  op : Int
  name : ByteArray
  other : ByteArray
  dao : Option Addr
  dlen : Nat
  dcap : Nat
  dX : Nat → Nat
  n : Int
  k : Int
  pos : Int
  pao : Option Addr
  plen : Nat
  pcap : Nat
  P : Nat → Int
def CV.cells (c : CV) : Array Value := #[.int .i64 c.op, .string c.name, .string c.other, .slice c.dao c.dlen c.dcap, .int .i64 c.n, .int .i64 c.k, .int .i64 c.pos, .slice c.pao c.plen c.pcap]
def CV.val (c : CV) : Value := .agg c.cells
structure CV.Ok (c : CV) (w : World) : Prop where
  name : c.name.size ≤ 2 ^ 63 - 1
  other : c.other.size ≤ 2 ^ 63 - 1
  byt : Byt w c.dao c.dlen c.dX
  dnil : c.dao = none → c.dlen = 0 ∧ c.dcap = 0
  dl : c.dlen ≤ 2 ^ 63 - 1
  n : -9223372036854775808 ≤ c.n ∧ c.n ≤ 9223372036854775807
  k : -9223372036854775808 ≤ c.k ∧ c.k ≤ 9223372036854775807
  pos : -9223372036854775808 ≤ c.pos ∧ c.pos ≤ 9223372036854775807
  ints : Ints w c.pao c.plen c.P
  pl : c.plen ≤ c.pcap ∧ c.pcap ≤ 2 ^ 63 - 1
/-- The call's memory is not of F. -/
structure CV.Off (c : CV) (F : Nat → Prop) : Prop where
  d : 0 < c.dlen → ∀ a, c.dao = some a → ¬ F a.block
  p : 0 < c.plen → ∀ a, c.pao = some a → ¬ F a.block
def DS.doC (σ : DS) (c : CV) : Int × DS :=
  if c.op = 0 then σ.create c.name
  else if c.op = 1 then σ.append c.name (bs c.dX c.dlen)
  else if c.op = 2 then σ.sync c.name
  else if c.op = 3 then σ.rename c.name c.other
  else if c.op = 4 then σ.remove c.name
  else if c.op = 5 then σ.syncDir
  else if c.op = 6 then (0, σ.setFuse c.n)
  else if c.op = 7 then (0, σ.setFault c.n c.k)
  else if c.op = 8 then (0, σ.crash (is c.P c.plen))
  else (if (σ.spoil c.name c.pos (c.n % 256)).1 = true then 0 else 7, (σ.spoil c.name c.pos (c.n % 256)).2)
theorem Inv.doC {σ : DS} (h : Inv σ) (hl : σ.c.calls < 1048576) (c : CV) {w : World} (hc : c.Ok w) : Inv (σ.doC c).2 := by
  unfold DS.doC
  split
  · exact h.create hl _
  · split
    · exact h.append hl _ _ (okb_bs hc.byt)
    · split
      · exact h.sync hl _
      · split
        · exact h.rename hl _ _
        · split
          · exact h.remove hl _
          · split
            · exact h.syncDir hl
            · split
              · exact h.setFuse _ hc.n.2
              · split
                · exact h.setFault _ _ hc.n.2 hc.k.2
                · split
                  · exact h.crash _
                  · exact h.spoil _ _ _ ⟨by omega, by omega⟩
theorem CV.Ok.later {c : CV} {w w' : World} (h : c.Ok w) (hb : Below w.heap.size w w') : c.Ok w' := ⟨h.name, h.other, h.byt.later hb, h.dnil, h.dl, h.n, h.k, h.pos, h.ints.later hb, h.pl⟩
theorem CV.Ok.kept {c : CV} {w w' : World} {F : Nat → Prop} (h : c.Ok w) (hk : Kept F w w') (ho : c.Off F) : c.Ok w' := ⟨h.name, h.other, h.byt.kept hk ho.d, h.dnil, h.dl, h.n, h.k, h.pos, h.ints.kept hk ho.p, h.pl⟩
theorem CV.Off.of {c : CV} {w : World} {F : Nat → Prop} (h : c.Ok w) (hF : ∀ k, F k → w.heap.size ≤ k) : c.Off F := by
  refine ⟨fun hl a e hf => ?_, fun hl a e hf => ?_⟩
  · obtain ⟨_, b, off, e', hc⟩ := h.byt 0 hl
    rw [e] at e'
    simp only [Option.some.injEq] at e'
    subst e'
    have h1 := World.block_lt_of_cell? w _ hc
    have h2 := hF _ hf
    simp only at h1 h2
    omega
  · obtain ⟨_, b, off, e', hc⟩ := h.ints 0 hl
    rw [e] at e'
    simp only [Option.some.injEq] at e'
    subst e'
    have h1 := World.block_lt_of_cell? w _ hc
    have h2 := hF _ hf
    simp only at h1 h2
    omega
theorem wrapB (n : Int) : IntKind.u8.wrap n = n % 256 := by simp [IntKind.wrap, IntKind.bits, IntKind.signed]

set_option maxHeartbeats 2000000 in
set_option maxRecDepth 100000 in
theorem model_any (p : Nat) (σ : DS) (F A : Nat → Prop) (loc : Nat → Nat) (lv wv : Value) (c : CV) (w : World) (h : RefAt w p σ F A loc lv wv) (hi : Inv σ) (hc : c.Ok w) (ho : c.Off F) (hd : c.dlen ≤ 2 ^ 47) :
    Calls Tryz.prog 9 #[ptr p, c.val] w fun e w' => e = .returned (.int .i64 (σ.doC c).1) ∧ Nxt w p (σ.doC c).2 F w' := by
  have hb : Below w.heap.size w (w.alloc (.cells c.cells 30)) := (Below.refl _ _).alloc (Nat.le_refl _) _
  have h1 := h.later hb
  have c1 := hc.later hb
  have HE : Hid (∀ {σ' : DS} {w' : World}, Nxt (w.alloc (.cells c.cells 30)) p σ' F w' → Nxt w p σ' F w') := fun x => Nxt.start hb x
  have wB := wrapB c.n
  obtain ⟨op, name, other, dao, dlen, dcap, dX, n, k, pos, pao, plen, pcap, P⟩ := c
  unfold CV.val CV.cells at *
  simp only at *
  unfold DS.doC
  simp only
  by_cases q0 : op = 0
  · rw [if_pos q0]
    subst q0
    have k1 := rcreate_any p σ F A loc lv wv name _ h1 hi c1.name
    unfold ptr at *
    clear h hi hc ho hb h1 c1 wB hd
    go_enter Tryz.func9, Tryz.ntmps9
    go_wp2_with (go_at_call 27; refine k1.mono ?_; rintro e w1 ⟨rfl, n1⟩)
    go_ret
    exact ⟨rfl, HE.out n1⟩
  rw [if_neg q0]
  by_cases q1 : op = 1
  · rw [if_pos q1]
    subst q1
    have k1 := rappend_any p σ F A loc lv wv name dao dlen dcap dX _ h1 hi c1.byt c1.dnil ho.d hd
    unfold ptr at *
    clear h hi hc ho hb h1 c1 wB hd q0
    go_enter Tryz.func9, Tryz.ntmps9
    go_wp2_with (go_at_call 28; refine k1.mono ?_; rintro e w1 ⟨rfl, n1⟩)
    go_ret
    exact ⟨rfl, HE.out n1⟩
  rw [if_neg q1]
  by_cases q2 : op = 2
  · rw [if_pos q2]
    subst q2
    have k1 := rsync_any p σ F A loc lv wv name _ h1 hi
    unfold ptr at *
    clear h hi hc ho hb h1 c1 wB hd q0 q1
    go_enter Tryz.func9, Tryz.ntmps9
    go_wp2_with (go_at_call 29; refine k1.mono ?_; rintro e w1 ⟨rfl, n1⟩)
    go_ret
    exact ⟨rfl, HE.out n1⟩
  rw [if_neg q2]
  by_cases q3 : op = 3
  · rw [if_pos q3]
    subst q3
    have k1 := rrename_any p σ F A loc lv wv name other _ h1 hi c1.other
    unfold ptr at *
    clear h hi hc ho hb h1 c1 wB hd q0 q1 q2
    go_enter Tryz.func9, Tryz.ntmps9
    go_wp2_with (go_at_call 30; refine k1.mono ?_; rintro e w1 ⟨rfl, n1⟩)
    go_ret
    exact ⟨rfl, HE.out n1⟩
  rw [if_neg q3]
  by_cases q4 : op = 4
  · rw [if_pos q4]
    subst q4
    have k1 := rremove_any p σ F A loc lv wv name _ h1 hi
    unfold ptr at *
    clear h hi hc ho hb h1 c1 wB hd q0 q1 q2 q3
    go_enter Tryz.func9, Tryz.ntmps9
    go_wp2_with (go_at_call 31; refine k1.mono ?_; rintro e w1 ⟨rfl, n1⟩)
    go_ret
    exact ⟨rfl, HE.out n1⟩
  rw [if_neg q4]
  by_cases q5 : op = 5
  · rw [if_pos q5]
    subst q5
    have k1 := rsyncDir_any p σ F A loc lv wv _ h1 hi
    unfold ptr at *
    clear h hi hc ho hb h1 c1 wB hd q0 q1 q2 q3 q4
    go_enter Tryz.func9, Tryz.ntmps9
    go_wp2_with (go_at_call 32; refine k1.mono ?_; rintro e w1 ⟨rfl, n1⟩)
    go_ret
    exact ⟨rfl, HE.out n1⟩
  rw [if_neg q5]
  by_cases q6 : op = 6
  · rw [if_pos q6]
    subst q6
    have k1 := rsetFuse_any p σ F A loc lv wv n _ h1
    unfold ptr at *
    clear h hi hc ho hb h1 c1 wB hd q0 q1 q2 q3 q4 q5
    go_enter Tryz.func9, Tryz.ntmps9
    go_wp2_with (go_at_call 33; refine k1.mono ?_; rintro e w1 ⟨rfl, n1⟩)
    go_ret
    exact ⟨rfl, HE.out n1⟩
  rw [if_neg q6]
  by_cases q7 : op = 7
  · rw [if_pos q7]
    subst q7
    have k1 := rsetFault_any p σ F A loc lv wv n k _ h1
    unfold ptr at *
    clear h hi hc ho hb h1 c1 wB hd q0 q1 q2 q3 q4 q5 q6
    go_enter Tryz.func9, Tryz.ntmps9
    go_wp2_with (go_at_call 34; refine k1.mono ?_; rintro e w1 ⟨rfl, n1⟩)
    go_ret
    exact ⟨rfl, HE.out n1⟩
  rw [if_neg q7]
  by_cases q8 : op = 8
  · rw [if_pos q8]
    subst q8
    have k1 := rcrash_any p σ F A loc lv wv pao plen pcap P _ h1 hi c1.ints ho.p (Nat.le_trans c1.pl.1 c1.pl.2)
    unfold ptr at *
    clear h hi hc ho hb h1 c1 wB hd q0 q1 q2 q3 q4 q5 q6 q7
    go_enter Tryz.func9, Tryz.ntmps9
    go_wp2_with (go_at_call 35; refine k1.mono ?_; rintro e w1 ⟨rfl, n1⟩)
    go_ret
    exact ⟨rfl, HE.out n1⟩
  rw [if_neg q8]
  have k1 := rspoil_any p σ F A loc lv wv name pos (n % 256) _ h1 hi
  have b0 : (op == 0) = false := beq_eq_false_iff_ne.2 q0
  have b1 : (op == 1) = false := beq_eq_false_iff_ne.2 q1
  have b2 : (op == 2) = false := beq_eq_false_iff_ne.2 q2
  have b3 : (op == 3) = false := beq_eq_false_iff_ne.2 q3
  have b4 : (op == 4) = false := beq_eq_false_iff_ne.2 q4
  have b5 : (op == 5) = false := beq_eq_false_iff_ne.2 q5
  have b6 : (op == 6) = false := beq_eq_false_iff_ne.2 q6
  have b7 : (op == 7) = false := beq_eq_false_iff_ne.2 q7
  have b8 : (op == 8) = false := beq_eq_false_iff_ne.2 q8
  unfold ptr at *
  clear h hi hc ho hb h1 c1 hd q0 q1 q2 q3 q4 q5 q6 q7 q8
  generalize σ.spoil name pos (n % 256) = S at k1 ⊢
  obtain ⟨B, σ'⟩ := S
  simp only at k1 ⊢
  cases B with
  | true =>
    simp only [if_true]
    go_enter Tryz.func9, Tryz.ntmps9
    go_wp2_with (go_at_call 36; refine k1.mono ?_; rintro e w1 ⟨rfl, n1⟩)
    go_ret
    exact ⟨rfl, HE.out n1⟩
  | false =>
    simp only [Bool.false_eq_true, if_false]
    go_enter Tryz.func9, Tryz.ntmps9
    go_wp2_with (go_at_call 36; refine k1.mono ?_; rintro e w1 ⟨rfl, n1⟩)
    go_ret
    exact ⟨rfl, HE.out n1⟩
end Go.Proofs.YtligofmcmjblpaaGreat

import Derived.Lib.SlBytesConst
import Derived.Test.YtifgojkmdicdmaaPk08
import Derived.Test.YtifgojkmdicdmaaPk12
import Derived.Test.YtifgojkmdicdmaaPk15
/- The document's own TakeBatch: bytes as a batch. -/
namespace Go.Proofs.Ytifgojkmdicdmaa
open Go.RowKit
set_option linter.unusedVariables false
set_option linter.unusedSimpArgs false

/-- The places: the answer's, the reader's, the batch's; all ahead of B, behind what was there. -/
structure Pl (w0 : World) (R p q B : Nat) : Prop where
  hR : w0.heap.size ≤ R
  hp : R < p
  hq : p < q
  hB : q < B
/-- Bytes behind ob. -/
def Sb (ob : Nat) (w : World) (a : Option Addr) (c : Nat) (xs : List Int) : Prop := Sl w a xs.length c xs ∧ ∀ b, Refs (.slice a xs.length c) b → ob < b
theorem Sb.grown {ob r : Nat} {w w' : World} {a : Option Addr} {c : Nat} {xs : List Int} (h : Sb ob w a c xs) (hg : w.grownBy w' (some r)) (hr : r ≤ ob) : Sb ob w' a c xs :=
  ⟨h.1.keep fun b hb => hg.block b (h.1.lt hb) (fun e => by simp only [Option.some.injEq] at e; have := h.2 b hb; omega), h.2⟩
theorem Sb.nil (ob : Nat) (w : World) : Sb ob w none 0 [] := ⟨Sl.nil w, fun b hr => by obtain ⟨_, _, _, e, h0⟩ := hr; cases e⟩
theorem sb_row {ob : Nat} {w w' : World} {v : Value} {xs : List Int} (h : Row w.heap.size w' v xs) (hob : ob < w.heap.size) (hok : Okb xs) : ∃ a c, v = .slice a xs.length c ∧ Sb ob w' a c xs := by
  obtain ⟨a, c, e, hs⟩ := Sl.ofRow h hok
  subst e
  refine ⟨a, c, rfl, hs, fun b hr => ?_⟩
  obtain ⟨off, l, c', e, h0⟩ := hr
  simp only [Value.slice.injEq] at e
  obtain ⟨rfl, rfl, rfl⟩ := e
  have := (World.ownsRow.lt h b rfl).1
  omega
theorem deOs_step {n : Nat} {st : Rd} {T : List OpV × Rd} {acc : List OpV} (h : T = (acc ++ (deOs (n + 1) st).1, (deOs (n + 1) st).2)) :
    ((deO st).2.2 ≠ 0 → T = (acc ++ [(deO st).1], (deO st).2)) ∧ ((deO st).2.2 = 0 → T = (acc ++ [(deO st).1] ++ (deOs n (deO st).2).1, (deOs n (deO st).2).2)) := by
  rw [deOs] at h
  constructor
  · intro q
    rw [if_pos q] at h
    exact h
  · intro q
    rw [if_neg (by simpa using q)] at h
    rw [h]
    simp
end Go.Proofs.Ytifgojkmdicdmaa

/- The document's own TakeBlock: where its walk stands. -/
namespace Go.Proofs.Ytifgojkmdicdmaa
open Go.RowKit
set_option linter.unusedVariables false
set_option linter.unusedSimpArgs false

theorem rdN_len {most : Nat} {s : Rd} : (rdN most s).2.1.length ≤ s.1.length := by
  unfold rdN
  split
  · exact Nat.le_refl _
  · split
    · exact Nat.le_refl _
    · split
      · exact Nat.le_refl _
      · simp only [List.length_drop]; omega
theorem rdN_less {most : Nat} {s : Rd} (h0 : s.2 = 0) (h : (rdN most s).2.2 = 0) : (rdN most s).2.1.length < s.1.length := by
  unfold rdN at h ⊢
  rw [if_neg (by simpa using h0)] at h ⊢
  split at h
  · rename_i q; exact absurd h q
  · rename_i q
    rw [if_neg q]
    split at h
    · cases h
    · rename_i q2
      rw [if_neg q2]
      have := tk_used (xs := s.1) (by simpa using q)
      simp only [List.length_drop]
      omega
theorem rdF_len {s : Rd} : (rdF s).2.1.length ≤ s.1.length := by
  unfold rdF
  split
  · exact Nat.le_refl _
  · split
    · rename_i q; rw [q]; exact Nat.le_refl _
    · rename_i q; rw [q]; simp
theorem rdB_len {most : Nat} {s : Rd} : (rdB most s).2.1.length ≤ s.1.length := by
  unfold rdB
  split
  · exact Nat.le_refl _
  · split
    · exact Nat.le_refl _
    · simp only [List.length_drop]; omega
theorem deV_len {key : List Int} {s : Rd} : (deV key s).2.1.length ≤ s.1.length := by
  have a1 := rdN_len (most := 4611686018427387904) (s := s)
  have a2 := rdF_len (s := (rdN 4611686018427387904 s).2)
  have a3 := rdN_len (most := 4611686018427387904) (s := (rdF (rdN 4611686018427387904 s).2).2)
  have a4 := rdB_len (most := 2048) (s := (rdN 4611686018427387904 (rdF (rdN 4611686018427387904 s).2).2).2)
  unfold deV
  split
  · simp only; omega
  · simp only; omega
/-- What there is when the numbers of a key were fine. -/
theorem kNum_fine {key : List Int} {s : Rd} (h : (kNum key s).2.2.2 = 0) :
    (rdN 9223372036854775808 (rdN key.length s).2).2.2 = 0 ∧ (kNum key s).2.1 ≤ 512 ∧ (kNum key s).1 + (kNum key s).2.1 ≤ 512 ∧ (kNum key s).2.1 ≤ (kNum key s).2.2.1.length ∧ (kNum key s).2.2 = (rdN 9223372036854775808 (rdN key.length s).2).2 := by
  unfold kNum at h ⊢
  simp only at h ⊢
  split at h
  · rename_i q; exact absurd h q
  · rename_i q
    rw [if_neg q]
    split at h
    · cases h
    · rename_i q2
      rw [if_neg q2]
      split at h
      · cases h
      · rename_i q3
        rw [if_neg q3]
        exact ⟨by simpa using q, by omega, by omega, by omega, rfl⟩
theorem deE1_less {key : List Int} {s : Rd} (h0 : s.2 = 0) (h : (kNum key s).2.2.2 = 0) : (deE1 key s).2.1.length < s.1.length := by
  obtain ⟨h1, h2, h3, h4, h5⟩ := kNum_fine h
  have hA : (rdN key.length s).2.2 = 0 := by
    refine Classical.byContradiction fun q => ?_
    rw [rdN_err q] at h1
    exact q h1
  have a1 := rdN_less (most := key.length) h0 hA
  have a2 := rdN_less (most := 9223372036854775808) hA h1
  have a3 := deV_len (key := keyK key s) (s := ((kNum key s).2.2.1.drop (kNum key s).2.1, 0))
  unfold deE1
  simp only [List.length_drop] at a3
  rw [h5] at a3 ⊢
  omega
/-- One round of reading. -/
theorem deEs_step {n : Nat} {key : List Int} {s : Rd} {T : List EntV × Rd} {acc : List EntV} (h : T = (acc ++ (deEs (n + 1) key s).1, (deEs (n + 1) key s).2)) :
    ((s.1.length = 0 ∨ s.2 ≠ 0) → T = (acc, s)) ∧ (¬ (s.1.length = 0 ∨ s.2 ≠ 0) → (kNum key s).2.2.2 ≠ 0 → T = (acc, (kNum key s).2.2)) ∧
    (¬ (s.1.length = 0 ∨ s.2 ≠ 0) → (kNum key s).2.2.2 = 0 → T = (acc ++ [(deE1 key s).1] ++ (deEs n (deE1 key s).1.key (deE1 key s).2).1, (deEs n (deE1 key s).1.key (deE1 key s).2).2)) := by
  rw [deEs] at h
  refine ⟨fun q => ?_, fun q q2 => ?_, fun q q2 => ?_⟩
  · rw [if_pos q] at h; simpa using h
  · rw [if_neg q, if_pos q2] at h; simpa using h
  · rw [if_neg q, if_neg (by simpa using q2)] at h; rw [h]; simp
theorem deV_key {key : List Int} {s : Rd} : (deV key s).1.key = key := by
  unfold deV
  split <;> rfl
/-- Bytes whose block is told. -/
def Sg (G : Nat → Prop) (w : World) (a : Option Addr) (c : Nat) (xs : List Int) : Prop := Sl w a xs.length c xs ∧ ∀ b, Refs (.slice a xs.length c) b → G b
theorem Sg.grown {G : Nat → Prop} {r : Option Nat} {w w' : World} {a : Option Addr} {c : Nat} {xs : List Int} (h : Sg G w a c xs) (hg : w.grownBy w' r) (hr : ∀ b, G b → some b ≠ r) : Sg G w' a c xs :=
  ⟨h.1.keep fun b hb => hg.block b (h.1.lt hb) (hr b (h.2 b hb)), h.2⟩
theorem Sg.later {G : Nat → Prop} {w w' : World} {a : Option Addr} {c : Nat} {xs : List Int} (h : Sg G w a c xs) (hb : Below w.heap.size w w') : Sg G w' a c xs := ⟨h.1.later hb, h.2⟩
theorem Sg.weak {G G' : Nat → Prop} {w : World} {a : Option Addr} {c : Nat} {xs : List Int} (h : Sg G w a c xs) (hG : ∀ b, b < w.heap.size → G b → G' b) : Sg G' w a c xs := ⟨h.1, fun b hb => hG b (h.1.lt hb) (h.2 b hb)⟩
theorem Sg.nil (G : Nat → Prop) (w : World) : Sg G w none 0 [] := ⟨Sl.nil w, fun b hr => by obtain ⟨_, _, _, e, h0⟩ := hr; cases e⟩
theorem sg_row {B : Nat} {w : World} {v : Value} {xs : List Int} (h : Row B w v xs) (hok : Okb xs) : ∃ a c, v = .slice a xs.length c ∧ Sg (fun b => B ≤ b) w a c xs := by
  obtain ⟨a, c, e, hs⟩ := Sl.ofRow h hok
  subst e
  refine ⟨a, c, rfl, hs, fun b hr => ?_⟩
  obtain ⟨off, l, c', e, h0⟩ := hr
  simp only [Value.slice.injEq] at e
  obtain ⟨rfl, rfl, rfl⟩ := e
  exact (World.ownsRow.lt h b rfl).1
/-- Where the walk stands: the reader, the entries so far. -/
structure TG (w0 : World) (p : Nat) (F : Nat → Prop) (wx : World) (v : Value) (es : List EntV) (st : Rd) : Prop where
  rd : RdAt wx p st
  row : RowF entE (p + 1) F wx v es
  hF : ∀ b, F b → p + 1 ≤ b
  bel : Below w0.heap.size w0 wx
  hp : w0.heap.size ≤ p
theorem TG.sz {w0 : World} {p : Nat} {F : Nat → Prop} {wx : World} {v : Value} {es : List EntV} {st : Rd} (h : TG w0 p F wx v es st) : p + 1 ≤ wx.heap.size := by have := h.rd.lt; omega
theorem TG.read {w0 : World} {p : Nat} {F : Nat → Prop} {wx wy : World} {v : Value} {es : List EntV} {st st' : Rd} (h : TG w0 p F wx v es st) (hg : wx.grownBy wy (some p)) (hr : RdAt wy p st') : TG w0 p F wy v es st' := by
  have h1 := h.hp
  refine ⟨hr, h.row.grown hg (fun b e e' => ?_) (fun b e e' => ?_), h.hF, Below.grown h.bel hg h.bel.size (fun k e => ?_), h.hp⟩
  · have := (h.row.own_lt e).1
    simp only [Option.some.injEq] at e'
    omega
  · have := h.hF b e
    simp only [Option.some.injEq] at e'
    omega
  · simp only [Option.some.injEq] at e
    omega
theorem TG.later {w0 : World} {p : Nat} {F : Nat → Prop} {wx wy : World} {v : Value} {es : List EntV} {st : Rd} (h : TG w0 p F wx v es st) (hb : Below wx.heap.size wx wy) : TG w0 p F wy v es st :=
  ⟨h.rd.later hb, h.row.later hb, h.hF, h.bel.trans (hb.mono h.bel.size), h.hp⟩
theorem TG.mark {w0 : World} {p : Nat} {F : Nat → Prop} {wx : World} {v : Value} {es : List EntV} {st : Rd} (h : TG w0 p F wx v es st) : TG w0 p (fun b => p + 1 ≤ b ∧ b < wx.heap.size) wx v es st ∧ ∀ b, v.ownBlock = some b → b < wx.heap.size :=
  ⟨⟨h.rd, h.row.strong.weak (fun b x => ⟨h.hF b x.1, x.2⟩), fun b x => x.1, h.bel, h.hp⟩, fun b e => (h.row.own_lt e).2⟩
theorem TG.sete {w0 : World} {p : Nat} {F : Nat → Prop} {wx : World} {v : Value} {es : List EntV} {st : Rd} (h : TG w0 p F wx v es st) (er : Nat) : TG w0 p F (wx.setCell ⟨p, 1, none⟩ (.int .i64 (er : Nat))) v es (st.1, er) := h.read (grown_set _ _ _ _) (h.rd.sete er)
theorem TG.number {w0 : World} {p : Nat} {F : Nat → Prop} {wx : World} {v : Value} {es : List EntV} {st : Rd} (h : TG w0 p F wx v es st) (most : Nat) (hm : most ≤ 2 ^ 63) :
    Calls Try.prog 36 #[.pointer (some ⟨p, 0, none⟩), .int .u64 (most : Int)] wx fun e w' => e = .returned (.int .u64 ((rdN most st).1 : Nat)) ∧ TG w0 p F w' v es (rdN most st).2 ∧ wx.grownBy w' (some p) :=
  (rnumber_any h.rd most hm).mono fun e w' ⟨he, hr, hg⟩ => ⟨he, h.read hg hr, hg⟩
theorem TG.flag {w0 : World} {p : Nat} {F : Nat → Prop} {wx : World} {v : Value} {es : List EntV} {st : Rd} (h : TG w0 p F wx v es st) :
    Calls Try.prog 37 #[.pointer (some ⟨p, 0, none⟩)] wx fun e w' => e = .returned (.bool (rdF st).1) ∧ TG w0 p F w' v es (rdF st).2 ∧ wx.grownBy w' (some p) :=
  (rflag_any h.rd).mono fun e w' ⟨he, hr, hg⟩ => ⟨he, h.read hg hr, hg⟩
theorem TG.cells {w0 : World} {p : Nat} {F : Nat → Prop} {wx : World} {v : Value} {es : List EntV} {st : Rd} (h : TG w0 p F wx v es st) : ∃ a c, wx.cell? ⟨p, 0, none⟩ = some (.slice a st.1.length c) ∧ wx.cell? ⟨p, 1, none⟩ = some (.int .i64 (st.2 : Nat)) ∧ wx.frozen? ⟨p, 0, none⟩ = false ∧ wx.frozen? ⟨p, 1, none⟩ = false ∧ Sl wx a st.1.length c st.1 ∧ (∀ b, Refs (.slice a st.1.length c) b → b < p) ∧ st.1.length ≤ 175921860444160 ∧ wx.heap[p]? = some (.cells #[.slice a st.1.length c, .int .i64 (st.2 : Nat)] 62 (0, 0)) := by
  obtain ⟨a, len, cap, h1, h2, h3, h4⟩ := h.rd
  obtain rfl := h2.1.symm
  exact ⟨a, cap, by rw [cell_of h1]; rfl, by rw [cell_of h1]; rfl, frozen_of h1 0, frozen_of h1 1, h2, h3, h4, h1⟩
theorem TG.rs {w0 : World} {p : Nat} {F : Nat → Prop} {wx : World} {v : Value} {es : List EntV} {st : Rd} (h : TG w0 p F wx v es st) : ∃ a c, v = .slice a es.length c ∧ RS entE wx a es.length c es := h.row.s.rs
/-- The same with an entry under way, at ob. -/
structure TU (w0 : World) (p m ob : Nat) (wx : World) (v : Value) (es : List EntV) (C : Array Value) (st : Rd) : Prop where
  tg : TG w0 p (fun b => p + 1 ≤ b ∧ b < m) wx v es st
  bo : wx.heap[ob]? = some (.cells C 35 (0, 0))
  own : ∀ b, v.ownBlock = some b → b < m
  pm : p + 1 ≤ m
  mo : m ≤ ob
theorem TU.begin {w0 : World} {p m : Nat} {wx : World} {v : Value} {es : List EntV} {st : Rd} (h : TG w0 p (fun b => p + 1 ≤ b ∧ b < m) wx v es st) (ho : ∀ b, v.ownBlock = some b → b < m) (hpm : p + 1 ≤ m) (hm : m ≤ wx.heap.size) (C : Array Value) : TU w0 p m wx.heap.size (wx.alloc (.cells C 35)) v es C st :=
  ⟨h.later ((Below.refl _ wx).alloc (Nat.le_refl _) _), heap_alloc_new wx _, ho, hpm, hm⟩
theorem TU.read {w0 : World} {p m ob : Nat} {wx wy : World} {v : Value} {es : List EntV} {C : Array Value} {st st' : Rd} (h : TU w0 p m ob wx v es C st) (hg : wx.grownBy wy (some p)) (hr : RdAt wy p st') : TU w0 p m ob wy v es C st' := by
  have h1 := h.pm
  have h2 := h.mo
  refine ⟨h.tg.read hg hr, ?_, h.own, h.pm, h.mo⟩
  rw [hg.block ob (Array.getElem?_eq_some_iff.1 h.bo).1 (fun e => by simp only [Option.some.injEq] at e; omega)]
  exact h.bo
theorem TU.set {w0 : World} {p m ob : Nat} {wx : World} {v : Value} {es : List EntV} {C : Array Value} {st : Rd} (h : TU w0 p m ob wx v es C st) (k : Nat) (u : Value) : TU w0 p m ob (wx.setCell ⟨ob, k, none⟩ u) v es (C.setIfInBounds k u) st := by
  have h1 := h.pm
  have h2 := h.mo
  have h3 := h.tg.hp
  have hg := grown_set wx ob k u
  refine ⟨⟨h.tg.rd.grown hg (by omega), h.tg.row.grown hg (fun b e e' => ?_) (fun b e e' => ?_), h.tg.hF, Below.grown h.tg.bel hg h.tg.bel.size (fun k e => ?_), h.tg.hp⟩, heap_set h.bo k u, h.own, h.pm, h.mo⟩
  · have := h.own b e
    simp only [Option.some.injEq] at e'
    omega
  · simp only [Option.some.injEq] at e'
    omega
  · simp only [Option.some.injEq] at e
    omega
theorem TU.number {w0 : World} {p m ob : Nat} {wx : World} {v : Value} {es : List EntV} {C : Array Value} {st : Rd} (h : TU w0 p m ob wx v es C st) (most : Nat) (hm : most ≤ 2 ^ 63) :
    Calls Try.prog 36 #[.pointer (some ⟨p, 0, none⟩), .int .u64 (most : Int)] wx fun e w' => e = .returned (.int .u64 ((rdN most st).1 : Nat)) ∧ TU w0 p m ob w' v es C (rdN most st).2 ∧ wx.grownBy w' (some p) :=
  (rnumber_any h.tg.rd most hm).mono fun e w' ⟨he, hr, hg⟩ => ⟨he, h.read hg hr, hg⟩
theorem TU.bytes {w0 : World} {p m ob : Nat} {wx : World} {v : Value} {es : List EntV} {C : Array Value} {st : Rd} (h : TU w0 p m ob wx v es C st) (most : Nat) (hm : most ≤ 2 ^ 62) :
    Calls Try.prog 38 #[.pointer (some ⟨p, 0, none⟩), .int .i64 (most : Int)] wx fun e w' => ∃ a c, e = .returned (.slice a (rdB most st).1.length c) ∧ Sg (fun b => ob < b) w' a c (rdB most st).1 ∧ TU w0 p m ob w' v es C (rdB most st).2 ∧ wx.grownBy w' (some p) :=
  (rbytes_any h.tg.rd most hm).mono fun e w' ⟨v', he, hr, hrd, hg⟩ => by
    obtain ⟨a, c, e1, hs⟩ := sg_row hr (rdB_okb h.tg.rd.okb)
    refine ⟨a, c, by rw [he, e1], ⟨hs.1, fun b hb => ?_⟩, h.read hg hrd, hg⟩
    have := hs.2 b hb
    have := (Array.getElem?_eq_some_iff.1 h.bo).1
    omega
theorem TU.facts {w0 : World} {p m ob : Nat} {wx : World} {v c0 c1 c2 c3 c4 : Value} {es : List EntV} {st : Rd} (h : TU w0 p m ob wx v es #[c0, c1, c2, c3, c4] st) :
    wx.cell? ⟨ob, 0, none⟩ = some c0 ∧ wx.cell? ⟨ob, 1, none⟩ = some c1 ∧ wx.cell? ⟨ob, 2, none⟩ = some c2 ∧ wx.cell? ⟨ob, 3, none⟩ = some c3 ∧ wx.cell? ⟨ob, 4, none⟩ = some c4 ∧ wx.frozen? ⟨ob, 3, none⟩ = false ∧ wx.frozen? ⟨ob, 4, none⟩ = false :=
  ⟨by rw [cell_of h.bo]; rfl, by rw [cell_of h.bo]; rfl, by rw [cell_of h.bo]; rfl, by rw [cell_of h.bo]; rfl, by rw [cell_of h.bo]; rfl, frozen_of h.bo 3, frozen_of h.bo 4⟩
/-- An entry that is whole may be put behind the others. -/
theorem TU.ready {w0 : World} {p m ob : Nat} {wx : World} {v : Value} {es : List EntV} {ka va : Option Addr} {kc vc : Nat} {o : EntV} {st : Rd} (h : TU w0 p m ob wx v es #[.slice ka o.key.length kc, .int .i64 o.seq, .bool o.gone, .int .i64 o.till, .slice va o.val.length vc] st) (hk : Sg (fun b => m ≤ b) wx ka kc o.key) (hv : Sg (fun b => m ≤ b) wx va vc o.val) (h1 : In64 o.seq) (h2 : In64 o.till) :
    RowF entE (p + 1) (fun b => p + 1 ≤ b) (wx.alloc (.cells #[.slice ka o.key.length kc, .int .i64 o.seq, .bool o.gone, .int .i64 o.till, .slice va o.val.length vc] 35)) v es ∧
    RSu entE (wx.alloc (.cells #[.slice ka o.key.length kc, .int .i64 o.seq, .bool o.gone, .int .i64 o.till, .slice va o.val.length vc] 35)) (some ⟨wx.heap.size, 0, none⟩) 1 1 [.slice ka o.key.length kc, .int .i64 o.seq, .bool o.gone, .int .i64 o.till, .slice va o.val.length vc] [o] ∧
    (∀ u ∈ [Value.slice ka o.key.length kc, .int .i64 o.seq, .bool o.gone, .int .i64 o.till, .slice va o.val.length vc], ∀ b, Refs u b → v.ownBlock ≠ some b) ∧
    (∀ u ∈ [Value.slice ka o.key.length kc, .int .i64 o.seq, .bool o.gone, .int .i64 o.till, .slice va o.val.length vc], ∀ b, Refs u b → p + 1 ≤ b) ∧
    p + 1 ≤ (wx.alloc (.cells #[.slice ka o.key.length kc, .int .i64 o.seq, .bool o.gone, .int .i64 o.till, .slice va o.val.length vc] 35)).heap.size ∧
    (∀ w9 v9, (wx.alloc (.cells #[.slice ka o.key.length kc, .int .i64 o.seq, .bool o.gone, .int .i64 o.till, .slice va o.val.length vc] 35)).grownBy w9 v.ownBlock → RowF entE (p + 1) (fun b => p + 1 ≤ b) w9 v9 (es ++ [o]) → TG w0 p (fun b => p + 1 ≤ b) w9 v9 (es ++ [o]) st ∧ Sg (fun b => p + 1 ≤ b) w9 ka kc o.key) := by
  have hb : Below wx.heap.size wx (wx.alloc (.cells #[.slice ka o.key.length kc, .int .i64 o.seq, .bool o.gone, .int .i64 o.till, .slice va o.val.length vc] 35)) := (Below.refl _ wx).alloc (Nat.le_refl _) _
  have hT := h.tg.later hb
  have hk2 := hk.later hb
  have hM : entE.M wx [.slice ka o.key.length kc, .int .i64 o.seq, .bool o.gone, .int .i64 o.till, .slice va o.val.length vc] o := ⟨ka, kc, va, vc, rfl, hk.1, hv.1, h1, h2⟩
  have hpm := h.pm
  have hgt : ∀ u ∈ [Value.slice ka o.key.length kc, .int .i64 o.seq, .bool o.gone, .int .i64 o.till, .slice va o.val.length vc], ∀ b, Refs u b → m ≤ b := fun u hu b hr => by
    simp only [List.mem_cons, List.not_mem_nil, or_false] at hu
    rcases hu with rfl | rfl | rfl | rfl | rfl
    · exact hk.2 b hr
    · exact (refs_int hr).elim
    · exact (refs_bool hr).elim
    · exact (refs_int hr).elim
    · exact hv.2 b hr
  refine ⟨hT.row.weak fun b x => x.1, rs_one hM, fun u hu b hr e => ?_, fun u hu b hr => ?_, ?_, fun w9 v9 hg hr9 => ⟨⟨?_, hr9, fun b x => x, Below.grown hT.bel hg hT.bel.size (fun k e => ?_), hT.hp⟩, ?_⟩⟩
  · have := hgt u hu b hr
    have := h.own b e
    omega
  · have := hgt u hu b hr
    omega
  · have := hT.sz
    omega
  · obtain ⟨a, len, cap, q1, q2, q3, q4⟩ := hT.rd
    have ew : ∀ k, k < p + 1 → k < (wx.alloc (.cells #[.slice ka o.key.length kc, .int .i64 o.seq, .bool o.gone, .int .i64 o.till, .slice va o.val.length vc] 35)).heap.size → w9.heap[k]? = _ := fun k hk hl => hg.block k hl (fun e => by have := (hT.row.own_lt e.symm).1; omega)
    exact ⟨a, len, cap, by rw [ew p (by omega) (Array.getElem?_eq_some_iff.1 q1).1]; exact q1, q2.keep fun b hb => ew b (by have := q3 b hb; omega) (q2.lt hb), q3, q4⟩
  · have := (hT.row.own_lt e).1
    have := hT.hp
    omega
  · exact (hk2.grown hg (fun b x e => by have := h.own b e.symm; omega)).weak (fun b _ x => by omega)
theorem run_uptoK (kh : IntKind) (ao : Option Addr) (len cap j : Nat) (h2 : j ≤ cap) : ∀ w, (Instr.slice 25 (.slice ao len cap) none (some (.int kh (j : Int))) none).run Try.prog w = .ok (.slice (cutA ao cap 0) j cap) w := fun w => by
  rw [run_slice_h (P := Try.prog) (w := w) 25 ao len cap under25 kh (j : Int) (by omega) (by omega), elem25, Try.sizeOf5]
  simp only [Result.andThen, Int.toNat_natCast]
  rw [sliced_cut _ _ _ _ (by omega)]
  simp
theorem run_fromK (kl : IntKind) (ao : Option Addr) (len cap i : Nat) (h1 : i ≤ len) (h2 : len ≤ cap) : ∀ w, (Instr.slice 25 (.slice ao len cap) (some (.int kl (i : Int))) none none).run Try.prog w = .ok (.slice (cutA ao cap i) (len - i) (cap - i)) w := fun w => by
  rw [run_slice_l (P := Try.prog) (w := w) 25 ao len cap under25 kl (i : Int) (by omega) (by omega), elem25, Try.sizeOf5]
  simp only [Result.andThen, Int.toNat_natCast]
  rw [sliced_cut _ _ _ _ (by omega)]
theorem Sl.upto0 {w : World} {ao : Option Addr} {len cap : Nat} {xs : List Int} (h : Sl w ao len cap xs) (j : Nat) (h2 : j ≤ len) : Sl w (cutA ao cap 0) j cap (xs.take j) := by
  have := h.cut 0 j (Nat.zero_le _) h2
  simpa using this
end Go.Proofs.Ytifgojkmdicdmaa

/- The law's own mem that every program must know. -/
namespace Go.Proofs.Ytifgojkmdicdmaa
open Go.RowKit
set_option linter.unusedVariables false
set_option linter.unusedSimpArgs false

theorem sl_byte (w : World) (c : Nat) (hc : c < 256) : Sl (w.alloc (.cells #[.int .u8 (c : Int)] 5 (1, 2))) (some ⟨w.heap.size, 0, none⟩) 1 1 [(c : Int)] := by
  refine ⟨rfl, fun x hx => by simp at hx; omega, (fun e => by cases e), Nat.le_refl _, by unfold maxLen; omega, fun k hk => ?_⟩
  obtain rfl : k = 0 := by omega
  refine ⟨by simpa [xof] using hc, w.heap.size, 0, rfl, ?_⟩
  have e : (w.alloc (.cells #[.int .u8 (c : Int)] 5 (1, 2))).heap[w.heap.size]? = some (.cells #[.int .u8 (c : Int)] 5 (1, 2)) := heap_alloc_new w _
  unfold World.cell?
  rw [e]
  simp [xof]
def eA : EntV := ⟨[97], 5, false, 0, [120]⟩
def eB : EntV := ⟨[97], 7, true, 0, []⟩
theorem add_a : addE [] eA = (0, [eA]) := by simp [addE, mayE, hasE, putE, atE, eA]
theorem ahead_ab : ahead eA eB = 1 := by simp [ahead, eA, eB, cmp]
theorem add_b : addE [eA] eB = (0, [eB, eA]) := by simp [addE, mayE, hasE, putE, atE, ahead_ab]; simp [eB]
theorem get_ab : getE [eB, eA] [97] 6 = some eA := by simp [getE, eA, eB, cmp]
theorem ord_nil : ordE [] := List.Pairwise.nil
theorem ok_nil : okE [] := fun e he => by cases he
theorem ord_a : ordE [eA] := List.pairwise_singleton _ _
theorem ok_a : okE [eA] := by have := addE_ok ok_nil eA; rw [add_a] at this; exact this
theorem ord_ab : ordE [eB, eA] := by have := addE_ord ord_a eB; rw [add_b] at this; exact this
theorem ok_ab : okE [eB, eA] := by have := addE_ok ok_a eB; rw [add_b] at this; exact this
theorem in64_of {n : Int} (h1 : -9223372036854775808 ≤ n) (h2 : n ≤ 9223372036854775807) : In64 n := ⟨h1, h2⟩
theorem refs_pair {a b : Nat} {k v : Value} {s t : Int} {g : Bool} (hk : ∀ x, Refs k x → x = a) (hv : ∀ x, Refs v x → x = b) : ∀ u ∈ [k, .int .i64 s, .bool g, .int .i64 t, v], ∀ x, Refs u x → x = a ∨ x = b := fun u hu x hx => by
  simp only [List.mem_cons, List.not_mem_nil, or_false] at hu
  rcases hu with rfl | rfl | rfl | rfl | rfl
  · exact .inl (hk x hx)
  · exact (refs_int hx).elim
  · exact (refs_bool hx).elim
  · exact (refs_int hx).elim
  · exact .inr (hv x hx)
theorem refs_at {a l c x : Nat} (h : Refs (.slice (some ⟨a, 0, none⟩) l c) x) : x = a := by
  obtain ⟨off, l', c', e, _⟩ := h
  simp only [Value.slice.injEq, Option.some.injEq, Addr.mk.injEq, and_true] at e
  exact e.1.1.symm
theorem refs_none {a x : Nat} (h : Refs (.slice none 0 0) x) : x = a := by
  obtain ⟨off, l', c', e, _⟩ := h
  cases e

end Go.Proofs.Ytifgojkmdicdmaa

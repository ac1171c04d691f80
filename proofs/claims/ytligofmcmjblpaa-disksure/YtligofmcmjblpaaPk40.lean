import Derived.Test.YtligofmcmjblpaaPk38
import Derived.Test.YtligofmcmjblpaaPk39
/- Several disks of the program's, apart from one another. -/
namespace Go.Proofs.Ytligofmcmjblpaa
open Go.RowKit
set_option linter.unusedVariables false
set_option linter.unusedSimpArgs false

/-- All of X stands as it stood. -/
def KeptX (X : Nat → Prop) (w w' : World) : Prop := ∀ k, X k → w'.heap[k]? = w.heap[k]?
structure Disks (D : PD) (B : Nat) (X : Nat → Prop) (L : List (Nat × DS)) (w : World) : Prop where
  ex : ∃ F : Nat → Nat → Prop, (∀ (i q : Nat) (σ : DS), L[i]? = some (q, σ) → D.R w q σ (F i) ∧ (∀ k, F i k → B ≤ k) ∧ ∀ k, F i k → ¬ X k) ∧ ∀ i j, i < L.length → j < L.length → i ≠ j → ∀ k, F i k → ¬ F j k
  xlt : ∀ k, X k → k < w.heap.size
  inv : ∀ (i q : Nat) (σ : DS), L[i]? = some (q, σ) → Inv σ
section
variable {D : PD} {B : Nat} {X : Nat → Prop} {L : List (Nat × DS)} {w w' W : World} {i q : Nat} {σ σ' : DS}
theorem Disks.later (h : Disks D B X L w) (hb : Below w.heap.size w w') : Disks D B X L w' := by
  obtain ⟨F, h1, h2⟩ := h.ex
  exact ⟨⟨F, fun i q σ e => ⟨PD.later (h1 i q σ e).1 hb, (h1 i q σ e).2⟩, h2⟩, fun k hk => Nat.lt_of_lt_of_le (h.xlt k hk) hb.size, h.inv⟩
/-- What was made since is fenced off. -/
theorem Disks.fence (h : Disks D B X L w) (hb : Below w.heap.size w w') : Disks D B (fun k => X k ∨ (w.heap.size ≤ k ∧ k < w'.heap.size)) L w' := by
  obtain ⟨F, h1, h2⟩ := h.ex
  refine ⟨⟨F, fun i q σ e => ⟨PD.later (h1 i q σ e).1 hb, (h1 i q σ e).2.1, fun k hk hx => ?_⟩, h2⟩, fun k hk => ?_, h.inv⟩
  · rcases hx with hx | hx
    · exact (h1 i q σ e).2.2 k hk hx
    · have := D.lt (h1 i q σ e).1 k hk
      omega
  · rcases hk with hk | hk
    · exact Nat.lt_of_lt_of_le (h.xlt k hk) hb.size
    · exact hk.2
theorem Disks.nx (h : Disks D B X L w) (hi : L[i]? = some (q, σ)) (hW : W.heap.size = B) (hb : Below B W w) {fn : FuncId} {args : Array Value} {Q : Ending → Prop}
    (con : ∀ F, D.R w q σ F → (∀ k, F k → B ≤ k) → Calls Try.prog fn args w fun e w' => Q e ∧ Nx D.R w q σ' F w') (hv : Inv σ') :
    Calls Try.prog fn args w fun e w' => Q e ∧ Below B W w' ∧ Disks D B X (L.set i (q, σ')) w' ∧ KeptX X w w' := by
  obtain ⟨F, h1, h2⟩ := h.ex
  have hil := (List.getElem?_eq_some_iff.1 hi).1
  subst hW
  have hs := hb.size
  refine (con (F i) (h1 i q σ hi).1 (h1 i q σ hi).2.1).mono ?_
  rintro e w' ⟨he, G, r, m, s⟩
  refine ⟨he, hb.trans (m.below hs (h1 i q σ hi).2.1), ⟨⟨fun j => if j = i then G else F j, fun j p τ hj => ?_, fun j k hj hk hne x hx hy => ?_⟩, fun k hk => Nat.lt_of_lt_of_le (h.xlt k hk) m.size, fun j p τ hj => ?_⟩, fun k hk => m.block k (h.xlt k hk) fun hf => (h1 i q σ hi).2.2 k hf hk⟩
  · by_cases q1 : j = i
    · subst q1
      rw [List.getElem?_set_self hil] at hj
      simp only [Option.some.injEq, Prod.mk.injEq] at hj
      obtain ⟨rfl, rfl⟩ := hj
      simp only [if_true]
      refine ⟨r, fun k hk => ?_, fun k hk hx => ?_⟩
      · rcases s k hk with x | x
        · exact (h1 j q σ hi).2.1 k x
        · omega
      · rcases s k hk with x | x
        · exact (h1 j q σ hi).2.2 k x hx
        · have := h.xlt k hx
          omega
    · rw [List.getElem?_set_ne (fun e => q1 e.symm)] at hj
      simp only [if_neg q1]
      have hjl := (List.getElem?_eq_some_iff.1 hj).1
      exact ⟨PD.kept (h1 j p τ hj).1 m fun k hk hF => h2 j i hjl hil q1 k hk hF, (h1 j p τ hj).2⟩
  · rw [List.length_set] at hj hk
    by_cases q1 : j = i
    · by_cases q2 : k = i
      · omega
      · simp only [if_pos q1, if_neg q2] at hx hy
        rcases s x hx with z | z
        · exact h2 i k hil hk (fun e => q2 e.symm) x z hy
        · obtain ⟨⟨p, τ⟩, hp⟩ : ∃ y, L[k]? = some y := ⟨_, List.getElem?_eq_getElem hk⟩
          have := D.lt (h1 k p τ hp).1 x hy
          omega
    · by_cases q2 : k = i
      · simp only [if_neg q1, if_pos q2] at hx hy
        rcases s x hy with z | z
        · exact h2 j i hj hil q1 x hx z
        · obtain ⟨⟨p, τ⟩, hp⟩ : ∃ y, L[j]? = some y := ⟨_, List.getElem?_eq_getElem hj⟩
          have := D.lt (h1 j p τ hp).1 x hx
          omega
      · simp only [if_neg q1, if_neg q2] at hx hy
        exact h2 j k hj hk hne x hx hy
  · by_cases q1 : j = i
    · subst q1
      rw [List.getElem?_set_self hil] at hj
      simp only [Option.some.injEq, Prod.mk.injEq] at hj
      obtain ⟨rfl, rfl⟩ := hj
      exact hv
    · rw [List.getElem?_set_ne (fun e => q1 e.symm)] at hj
      exact h.inv j p τ hj
theorem Disks.copy (DC : Cps D) (h : Disks D B X L w) (i : Nat) (hi : L[i]? = some (q, σ)) (hW : W.heap.size = B) (hb : Below B W w) :
    Calls Try.prog 21 #[.pointer (some ⟨q, 0, none⟩)] w fun e w' => ∃ q', e = .returned (.pointer (some ⟨q', 0, none⟩)) ∧ Below B W w' ∧ Disks D B X (L ++ [(q', σ)]) w' := by
  obtain ⟨F, h1, h2⟩ := h.ex
  subst hW
  have hs := hb.size
  refine (DC.copy (h1 i q σ hi).1 (h.inv i q σ hi)).mono ?_
  rintro e w' ⟨q', G, rfl, r, g, b⟩
  refine ⟨q', rfl, hb.trans (b.mono hs), ⟨⟨fun j => if j = L.length then G else F j, fun j p τ hj => ?_, fun j k hj hk hne x hx hy => ?_⟩, fun k hk => Nat.lt_of_lt_of_le (h.xlt k hk) b.size, fun j p τ hj => ?_⟩⟩
  · by_cases q1 : j = L.length
    · subst q1
      simp at hj
      obtain ⟨rfl, rfl⟩ := hj
      simp only [if_true]
      exact ⟨r, fun k hk => Nat.le_trans hs (g k hk), fun k hk hx => by have h3 := g k hk; have h4 := h.xlt k hx; omega⟩
    · have hjl : j < L.length := by
        have := (List.getElem?_eq_some_iff.1 hj).1
        simp at this
        omega
      rw [List.getElem?_append_left hjl] at hj
      simp only [if_neg q1]
      exact ⟨PD.later (h1 j p τ hj).1 b, (h1 j p τ hj).2⟩
  · simp only [List.length_append, List.length_singleton] at hj hk
    have old : ∀ j, j < L.length → ∀ x, F j x → x < w.heap.size := fun j hj x hx => by
      obtain ⟨⟨p, τ⟩, hp⟩ : ∃ y, L[j]? = some y := ⟨_, List.getElem?_eq_getElem hj⟩
      exact D.lt (h1 j p τ hp).1 x hx
    by_cases q1 : j = L.length
    · by_cases q2 : k = L.length
      · omega
      · simp only [if_pos q1, if_neg q2] at hx hy
        have e1 := g x hx
        have e2 := old k (by omega) x hy
        omega
    · by_cases q2 : k = L.length
      · simp only [if_neg q1, if_pos q2] at hx hy
        have e1 := g x hy
        have e2 := old j (by omega) x hx
        omega
      · simp only [if_neg q1, if_neg q2] at hx hy
        exact h2 j k (by omega) (by omega) hne x hx hy
  · by_cases q1 : j = L.length
    · subst q1
      simp at hj
      obtain ⟨rfl, rfl⟩ := hj
      exact h.inv i _ _ hi
    · have hjl : j < L.length := by
        have := (List.getElem?_eq_some_iff.1 hj).1
        simp at this
        omega
      rw [List.getElem?_append_left hjl] at hj
      exact h.inv j p τ hj
theorem Disks.crash (h : Disks D B X L w) (i : Nat) (hi : L[i]? = some (q, σ)) (hW : W.heap.size = B) (hb : Below B W w) (po : Option Addr) (pl pc : Nat) (P : Nat → Int) (hp : Ints W po pl P) (hl : pl ≤ pc ∧ pc ≤ 2 ^ 63 - 1) :
    Calls Try.prog 24 #[.pointer (some ⟨q, 0, none⟩), .slice po pl pc] w fun e w' => e = .returned (.tuple #[]) ∧ Below B W w' ∧ Disks D B X (L.set i (q, σ.crash (is P pl))) w' ∧ KeptX X w w' := by
  have hv := h.inv i q σ hi
  refine h.nx hi hW hb (Q := fun e => e = .returned (.tuple #[])) (fun F r f => ?_) (hv.crash _)
  refine D.crash po pl pc P r hv (hp.later (by rw [hW]; exact hb)) (fun h0 a e hf => ?_) hl
  obtain ⟨_, b, off, e', hcell⟩ := hp 0 h0
  rw [e] at e'
  simp only [Option.some.injEq] at e'
  subst e'
  have h1 := World.block_lt_of_cell? W _ hcell
  have h2 := f _ hf
  simp only at h1 h2
  omega
theorem Disks.list (h : Disks D B X L w) (i : Nat) (hi : L[i]? = some (q, σ)) : Calls Try.prog 17 #[.pointer (some ⟨q, 0, none⟩)] w fun e w' => ∃ v, e = .returned v ∧ StrsR w' v σ.list ∧ Below w.heap.size w w' := by
  obtain ⟨F, h1, _⟩ := h.ex
  exact D.list (h1 i q σ hi).1 (h.inv i q σ hi)
theorem Disks.listN (h : Disks D B X L w) (i : Nat) (hi : L[i]? = some (q, σ)) : Calls Try.prog 17 #[.pointer (some ⟨q, 0, none⟩)] w fun e w' => ∃ v, e = .returned v ∧ StrsR w' v σ.list ∧ Below w.heap.size w w' ∧ ∀ k, v.ownBlock = some k → w.heap.size ≤ k := by
  obtain ⟨F, h1, _⟩ := h.ex
  exact D.listN (h1 i q σ hi).1 (h.inv i q σ hi)
theorem Disks.used (h : Disks D B X L w) (i : Nat) (hi : L[i]? = some (q, σ)) : Calls Try.prog 12 #[.pointer (some ⟨q, 0, none⟩)] w fun e w' => e = .returned (.int .i64 (σ.used : Int)) ∧ Below w.heap.size w w' := by
  obtain ⟨F, h1, _⟩ := h.ex
  exact D.used (h1 i q σ hi).1 (h.inv i q σ hi)
theorem Disks.read (h : Disks D B X L w) (i : Nat) (hi : L[i]? = some (q, σ)) (s : ByteArray) : Calls Try.prog 15 #[.pointer (some ⟨q, 0, none⟩), .string s] w fun e w' => ∃ v, e = .returned (.tuple #[v, .int .i64 (σ.read s).2]) ∧ BytR w' v ((σ.read s).1.getD []) ∧ Below w.heap.size w w' := by
  obtain ⟨F, h1, _⟩ := h.ex
  exact D.read s (h1 i q σ hi).1 (h.inv i q σ hi)
theorem Disks.sync (h : Disks D B X L w) (i : Nat) (hi : L[i]? = some (q, σ)) (hW : W.heap.size = B) (hb : Below B W w) (s : ByteArray) (hl : σ.c.calls < 1048576) : Calls Try.prog 22 #[.pointer (some ⟨q, 0, none⟩), .string s] w fun e w' => e = .returned (.int .i64 (σ.sync s).1) ∧ Below B W w' ∧ Disks D B X (L.set i (q, (σ.sync s).2)) w' ∧ KeptX X w w' :=
  h.nx hi hW hb (Q := fun e => e = .returned (.int .i64 (σ.sync s).1)) (fun F r f => D.sync s r (h.inv i q σ hi)) ((h.inv i q σ hi).sync hl s)
theorem Disks.syncDir (h : Disks D B X L w) (i : Nat) (hi : L[i]? = some (q, σ)) (hW : W.heap.size = B) (hb : Below B W w) (hl : σ.c.calls < 1048576) : Calls Try.prog 23 #[.pointer (some ⟨q, 0, none⟩)] w fun e w' => e = .returned (.int .i64 σ.syncDir.1) ∧ Below B W w' ∧ Disks D B X (L.set i (q, σ.syncDir.2)) w' ∧ KeptX X w w' :=
  h.nx hi hW hb (Q := fun e => e = .returned (.int .i64 σ.syncDir.1)) (fun F r f => D.syncDir r (h.inv i q σ hi)) ((h.inv i q σ hi).syncDir hl)
theorem Disks.doC (h : Disks D B X L w) (i : Nat) (hi : L[i]? = some (q, σ)) (hW : W.heap.size = B) (hb : Below B W w) (c : CV) (hc : c.Ok W) (hd : c.dlen ≤ 2 ^ 47) (hl : σ.c.calls < 1048576) : Calls Try.prog 16 #[.pointer (some ⟨q, 0, none⟩), c.val] w fun e w' => e = .returned (.int .i64 (σ.doC c).1) ∧ Below B W w' ∧ Disks D B X (L.set i (q, (σ.doC c).2)) w' ∧ KeptX X w w' := by
  subst hW
  exact h.nx hi rfl hb (Q := fun e => e = .returned (.int .i64 (σ.doC c).1)) (fun F r f => do_any D q σ F c w r (h.inv i q σ hi) (hc.later hb) ⟨(CV.Off.of hc f).d, (CV.Off.of hc f).p⟩ hd) ((h.inv i q σ hi).doC hl c hc)
end
end Go.Proofs.Ytligofmcmjblpaa

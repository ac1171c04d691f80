import Derived.Test.YtfecopldepnicaaPk31
import Derived.Test.YtfecopldepnicaaPk39
import Derived.Test.YtfecopldepnicaaPk42
import Derived.Test.YtfecopldepnicaaPk44
/- The landed block: where a search begins. -/
namespace Go.Proofs.Ytfecopldepnicaa
open Go.RowKit
set_option linter.unusedVariables false
set_option linter.unusedSimpArgs false

theorem box4 (w : World) (x0 x1 x2 x3 : Value) (t0 t1 t2 t3 : TypeId) :
    ((((w.alloc (.cells #[x0] t0)).alloc (.cells #[x1] t1)).alloc (.cells #[x2] t2)).alloc (.cells #[x3] t3)).cell? ⟨w.heap.size, 0, none⟩ = some x0 ∧ ((((w.alloc (.cells #[x0] t0)).alloc (.cells #[x1] t1)).alloc (.cells #[x2] t2)).alloc (.cells #[x3] t3)).cell? ⟨w.heap.size + 1, 0, none⟩ = some x1 ∧
    ((((w.alloc (.cells #[x0] t0)).alloc (.cells #[x1] t1)).alloc (.cells #[x2] t2)).alloc (.cells #[x3] t3)).cell? ⟨w.heap.size + 2, 0, none⟩ = some x2 ∧ ((((w.alloc (.cells #[x0] t0)).alloc (.cells #[x1] t1)).alloc (.cells #[x2] t2)).alloc (.cells #[x3] t3)).cell? ⟨w.heap.size + 3, 0, none⟩ = some x3 ∧
    Below w.heap.size w ((((w.alloc (.cells #[x0] t0)).alloc (.cells #[x1] t1)).alloc (.cells #[x2] t2)).alloc (.cells #[x3] t3)) := by
  have hn : ∀ (u : World) (x : Value) (t : TypeId), (u.alloc (.cells #[x] t)).cell? ⟨u.heap.size, 0, none⟩ = some x := fun u x t => by rw [cell_of (heap_alloc_new u _)]; rfl
  have hl : ∀ (u : World) (x y : Value) (t : TypeId) (a : Addr), u.cell? a = some y → (u.alloc (.cells #[x] t)).cell? a = some y := fun u x y t a h => cell_later ((Below.refl _ u).alloc (Nat.le_refl _) _) h
  have hs : ∀ (u : World) (x : Value) (t : TypeId), (u.alloc (.cells #[x] t)).heap.size = u.heap.size + 1 := fun u x t => by simp
  refine ⟨hl _ _ _ _ _ (hl _ _ _ _ _ (hl _ _ _ _ _ (hn w x0 t0))), hl _ _ _ _ _ (hl _ _ _ _ _ ?_), hl _ _ _ _ _ ?_, ?_, (((((Below.refl _ w).alloc (Nat.le_refl _) _).alloc (by simp) _).alloc (by simp; omega) _).alloc (by simp; omega) _)⟩
  · have := hn (w.alloc (.cells #[x0] t0)) x1 t1
    rw [hs] at this
    exact this
  · have := hn ((w.alloc (.cells #[x0] t0)).alloc (.cells #[x1] t1)) x2 t2
    rw [hs, hs] at this
    exact this
  · have := hn (((w.alloc (.cells #[x0] t0)).alloc (.cells #[x1] t1)).alloc (.cells #[x2] t2)) x3 t3
    rw [hs, hs, hs] at this
    exact this
/-- Is the restart not ahead? -/
def notA (l : List EntV) (key : List Int) (s : Int) (i : Nat) : Bool := match l[8 * i]? with
  | some e => !ahK e key s
  | none => false

set_option maxHeartbeats 2000000 in
set_option maxRecDepth 100000 in
theorem rst_k {w : World} {ba pa ka : Option Addr} {bl bc pl pc kl kc : Nat} {s : Int} {key : List Int} {l : List EntV} (hB : Sl w ba bl bc (enEs 0 [] l)) (hP : Sl w pa pl pc (enTl 0 0 [] l)) (hK : Sl w ka kl kc key) (h1 : 1 ≤ l.length) (h4 : l.length ≤ 400) (hm : ∀ e ∈ l, mayE e = true) (ho : ∀ e ∈ l, OkE e) :
    Calls Try.prog 99 #[.slice ba bl bc, .slice pa pl pc, .slice ka kl kc, .int .i64 s] w fun e w' => ∃ m : Nat, 8 * m < l.length ∧ (m = 0 ∨ ∃ h : 8 * m < l.length, ahK l[8 * m] key s = true) ∧ e = .returned (.int .i64 (offK l m : Int)) ∧ Below w.heap.size w w' := by
  obtain ⟨n, hn⟩ : ∃ n, n = eig 0 l := ⟨_, rfl⟩
  have hpl : pl = 4 * n := by rw [← hP.1, enTl_len, hn]
  have hne : n = (l.length + 7) / 8 := by rw [hn, eig_eq]; omega
  have hbl : bl ≤ 2000000 := by
    have a1 := enEs_tlen (List.all_eq_true.2 hm) l.length (Nat.le_refl _)
    rw [List.take_length, hB.1] at a1
    omega
  have hoff : ∀ i, offK l i ≤ bl := fun i => by rw [← hB.1]; exact off_le
  have hfv : ∀ i, i < n → fv (xof ((enTl 0 0 [] l).drop (4 * i))) 4 = offK l i := fun i hi => by
    obtain ⟨t, ht, e⟩ := plc_at (l := l) (i := i) (by omega)
    rw [e]
    exact fv_four (by have := hoff i; omega) t ht
  have htE : ∀ i (h : 8 * i < l.length), tE [] ((enEs 0 [] l).drop (offK l i)) = (0, l[8 * i], enEs (8 * i + 1) l[8 * i].key (l.drop (8 * i + 1))) := fun i h => by
    rw [body_at (by omega), List.drop_eq_getElem_cons h]
    exact tE_next (.inl (by omega)) (by simp) (hm _ (List.getElem_mem h)) (ho _ (List.getElem_mem h)) (fun x hx => ho x (List.mem_of_mem_drop hx))
  obtain ⟨q0, q1, q2, q3, qb⟩ := box4 w (.slice ba bl bc) (.slice pa pl pc) (.slice ka kl kc) (.int .i64 s) 25 25 25 2
  obtain ⟨W, hW⟩ : ∃ W, W = (((w.alloc (.cells #[.slice ba bl bc] 25)).alloc (.cells #[.slice pa pl pc] 25)).alloc (.cells #[.slice ka kl kc] 25)).alloc (.cells #[.int .i64 s] 2) := ⟨_, rfl⟩
  rw [← hW] at q0 q1 q2 q3 qb
  have hsr := srch_k (w := W) (n := n) (p0 := .pointer (some ⟨w.heap.size, 0, none⟩)) (p1 := .pointer (some ⟨w.heap.size + 1, 0, none⟩)) (p2 := .pointer (some ⟨w.heap.size + 2, 0, none⟩)) (p3 := .pointer (some ⟨w.heap.size + 3, 0, none⟩)) (F := notA l key s) (by omega) (fun wx hb i hi => by
    have h8 : 8 * i < l.length := by omega
    have e : notA l key s i = !ahK l[8 * i] key s := by unfold notA; rw [List.getElem?_eq_getElem h8]
    rw [e]
    exact clo_k (cell_later hb q0) (cell_later hb q1) (cell_later hb q2) (cell_later hb q3) ((hB.later qb).later hb) ((hP.later qb).later hb) ((hK.later qb).later hb) (by omega) (by omega) hbl (hfv i hi) (hoff i) (htE i h8))
  have HPL : Hid (∀ wx, Below W.heap.size W wx → ∀ i, i < n → Calls Try.prog 109 #[.slice pa pl pc, .int .i64 (i : Int)] wx fun e w' => e = .returned (.int .i64 (offK l i : Int)) ∧ w' = wx) := fun wx hb i hi => plc_k ((hP.later qb).later hb) (by omega) (by omega) (hfv i hi) (by have := hoff i; omega)
  have HN : Hid (1 ≤ n ∧ n = (l.length + 7) / 8) := ⟨by omega, hne⟩
  have HQ := hid (And.intro q1 qb)
  have hpl62 : pl ≤ 2 ^ 61 := by omega
  have hz4 : (pl : Int) / 4 = (n : Int) := by omega
  have hz5 : Int.tdiv (pl : Int) 4 = (n : Int) := by rw [Int.tdiv_eq_ediv_of_nonneg (by omega)]; omega
  have hmf : ∀ (fn : Fn) (first cap : Array Value) (w : World), (Instr.makeFunc fn first cap).run Try.prog w = .ok (.func fn first cap) w := fun _ _ _ _ => rfl
  have HW := hid hW
  clear hB hP hK h1 h4 hm ho hn hne hbl hoff hfv htE q0 q1 q2 q3 qb hpl hW
  go_enter Try.func99, Try.ntmps99
  go_upto_region 1 with fail
  rw [← HW.out]
  have y1 := HQ.out.1
  go_upto_region 2 with (go_at_call 78; refine hsr.mono ?_; rintro e w1 ⟨r, hr, rfl, hF, b1⟩)
  clear y1
  have y1 := cell_later b1 HQ.out.1
  have hB1 := HQ.out.2.trans (b1.mono HQ.out.2.size)
  cases r with
  | zero =>
    have hp := HPL.out _ b1 0 HN.out.1
    go_wp2_with (go_at_call 109; refine hp.mono ?_; rintro e w2 ⟨rfl, hw⟩; obtain rfl := hw.symm)
    exact bodyPost_ret (v := .int .i64 (offK l 0 : Int)) (by simp [results, Try.results99, go_sem]) rfl ⟨0, by have := HN.out; omega, .inl rfl, rfl, hB1⟩
  | succ m =>
    have hp := HPL.out _ b1 m (by omega)
    have HM : Hid (8 * m < l.length) := by show _ < _; have := HN.out; omega
    have HA : Hid (ahK (l[8 * m]'HM.out) key s = true) := by
      have hf := hF.resolve_left (by omega)
      rw [Nat.add_sub_cancel] at hf
      unfold notA at hf
      rw [List.getElem?_eq_getElem HM.out] at hf
      show _ = true
      simpa using hf
    have hm62 : m ≤ 2 ^ 61 := by have := HM.out; omega
    have hmx : max (m : Int) 0 = (m : Int) := by omega
    have hwm : wrap64 ((m : Int) + 1 - 1) = (m : Int) := by unfold wrap64; omega
    have hwm2 : wrap64 (((m + 1 : Nat) : Int) - 1) = (m : Int) := by unfold wrap64; omega
    clear hr hF hwm2
    go_wp2_with (go_at_call 109; refine hp.mono ?_; rintro e w2 ⟨rfl, hw⟩; obtain rfl := hw.symm)
    exact bodyPost_ret (v := .int .i64 (offK l m : Int)) (by simp [results, Try.results99, go_sem]) rfl ⟨m, HM.out, .inr ⟨HM.out, HA.out⟩, rfl, hB1⟩
end Go.Proofs.Ytfecopldepnicaa

/- The landed block keeps what is asked of Ordered and Encode. -/
namespace Go.Proofs.Ytfecopldepnicaa
open Go.RowKit
set_option linter.unusedVariables false
set_option linter.unusedSimpArgs false

theorem encX_k {w : World} {ao : Option Addr} {len cap : Nat} {l : List EntV} (h : RS entE w ao len cap l) (hl : len ≤ 2 ^ 61) :
    Calls Try.prog 62 #[.slice ao len cap] w fun e w' => ∃ v, e = .returned (.tuple #[v, .int .i64 ((blkE l : Nat) : Int)]) ∧ SlV w' v (encX l) ∧ Below w.heap.size w w' :=
  (encR_k h hl).mono fun e w' ⟨v, he, hr, hb⟩ => ⟨v, he, SlV.ofRow hr (by unfold encX; split; exact okb_blkB h.okE; exact fun x hx => by cases hx), hb⟩
theorem theBk : PBk where
  ordered := fun h hl _ => ord_k h (by omega)
  encode := fun h hl _ => encX_k h (by omega)
end Go.Proofs.Ytfecopldepnicaa

/- The landed block keeps what is asked of Decode. -/
namespace Go.Proofs.Ytfecopldepnicaa
open Go.RowKit
set_option linter.unusedVariables false
set_option linter.unusedSimpArgs false

theorem theBd : PBd where
  decode := fun {w ao len cap d} h hl => (dec_k h hl).mono fun e w' ⟨v, he, hr, hb⟩ => ⟨v, tkEL d, he, (tkL d).1, by rw [← (tkL d).2]; exact hr, hb⟩
end Go.Proofs.Ytfecopldepnicaa

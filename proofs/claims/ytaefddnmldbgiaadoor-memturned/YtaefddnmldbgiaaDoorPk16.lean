import Derived.Test.YtaefddnmldbgiaaDoorPk08
import Derived.Test.YtaefddnmldbgiaaDoorPk15
/- What the landed mem's small functions answer. -/
namespace Go.Proofs.YtaefddnmldbgiaaDoor
open Go.RowKit
set_option linter.unusedVariables false
set_option linter.unusedSimpArgs false

set_option maxHeartbeats 2000000 in
set_option maxRecDepth 100000 in
theorem may_m {w : World} {ka va : Option Addr} {kc vc : Nat} {e : EntV} : Calls Tryd.prog 29 #[entA ka kc va vc e] w fun r w' => r = .returned (.bool (mayE e)) ∧ Below w.heap.size w w' := by
  obtain ⟨key, seq, gone, till, vl⟩ := e
  unfold entA
  simp only
  unfold mayE
  simp only
  generalize key.length = kl
  generalize vl.length = ln
  cases gone
  · go_enter Tryd.func29, Tryd.ntmps29
    go_wp2_with fail
    all_goals
      go_ret
      refine ⟨congrArg (fun b => Ending.returned (.bool b)) ?_, (Below.refl _ w).alloc (Nat.le_refl _) _⟩
      rw [Bool.eq_iff_iff]
      simp
      try omega
  · go_enter Tryd.func29, Tryd.ntmps29
    go_wp2_with fail
    all_goals
      go_ret
      refine ⟨congrArg (fun b => Ending.returned (.bool b)) ?_, (Below.refl _ w).alloc (Nat.le_refl _) _⟩
      rw [Bool.eq_iff_iff]
      simp
      try omega
theorem eql_m {w : World} {ao bo : Option Addr} {la ca lb cb : Nat} {xs ys : List Int} (ha : Sl w ao la ca xs) (hb : Sl w bo lb cb ys) : Calls Tryd.prog 42 #[.slice ao la ca, .slice bo lb cb] w fun e w' => e = .returned (.bool (decide (xs = ys))) ∧ w' = w := by
  have h1 := str_l ha
  have h2 := str_l hb
  have HE := hid (str_eq ha.2.1 hb.2.1)
  clear ha hb
  go_enter Tryd.func42, Tryd.ntmps42
  go_wp2_with fail
  go_ret
  refine ⟨?_, rfl⟩
  rw [← HE.out]
  simp
/-- As cmp.Compare of whole numbers. -/
def cmpI (a b : Int) : Int := if a < b then -1 else if b < a then 1 else 0
theorem nan_m {w : World} {a : Int} : Calls Tryd.prog 56 #[.int .i64 a] w fun e w' => e = .returned (.bool false) ∧ w' = w := by
  go_enter Tryd.func56, Tryd.ntmps56
  go_wp2_with fail
  go_ret
  exact ⟨by simp, rfl⟩
theorem cmp64_m {w : World} {a b : Int} : Calls Tryd.prog 51 #[.int .i64 a, .int .i64 b] w fun e w' => e = .returned (.int .i64 (cmpI a b)) ∧ w' = w := by
  have h1 := @nan_m w a
  have h2 := @nan_m w b
  unfold cmpI
  go_enter Tryd.func51, Tryd.ntmps51
  go_wp2_with (go_at_call 56; refine (@nan_m _ _).mono ?_; rintro e w' ⟨rfl, rfl⟩)
  all_goals
    go_ret
    simp
    try omega
/-- The table of the package: sixty-four small numbers. -/
def Tab (w : World) : Prop := ∃ C t fr, w.heap[1]? = some (.cells C t fr) ∧ (t ≠ 62 ∧ t ≠ 57 ∧ t ≠ 59) ∧ ∀ i : Nat, i < 64 → ∃ n : Nat, C[i]? = some (.int .u8 (n : Int)) ∧ n < 256
theorem Tab.keep {w w' : World} (h : Tab w) (hk : w'.heap[1]? = w.heap[1]?) : Tab w' := by
  obtain ⟨C, t, fr, h1, ht, h2⟩ := h
  exact ⟨C, t, fr, hk.trans h1, ht, h2⟩
theorem Tab.lt {w : World} (h : Tab w) : 2 ≤ w.heap.size := by
  obtain ⟨C, t, fr, h1, ht, h2⟩ := h
  have := (Array.getElem?_eq_some_iff.1 h1).1
  omega
theorem Tab.later {w w' : World} (h : Tab w) (hb : Below w.heap.size w w') : Tab w' := h.keep (hb.block 1 (by have := h.lt; omega))
theorem Tab.at {w : World} (h : Tab w) {i : Nat} (hi : i < 64) : ∃ n : Nat, w.cell? ⟨1, i, none⟩ = some (.int .u8 (n : Int)) ∧ n < 256 := by
  obtain ⟨C, t, fr, h1, ht, h2⟩ := h
  obtain ⟨n, h3, h4⟩ := h2 i hi
  exact ⟨n, by rw [cell_of h1]; exact h3, h4⟩
theorem tz_m {w : World} (h : Tab w) {x : Int} (hx : 0 ≤ x ∧ x < 18446744073709551616) : Calls Tryd.prog 53 #[.int .u64 x] w fun e w' => (∃ n : Nat, n < 256 ∧ e = .returned (.int .i64 (n : Int))) ∧ w' = w := by
  have HT := hid h
  clear h
  by_cases hz : x = 0
  · subst hz
    go_enter Tryd.func53, Tryd.ntmps53
    go_wp2_with fail
    go_ret
    exact ⟨⟨64, by decide, rfl⟩, rfl⟩
  · have h0 : (x == 0) = false := by simpa using hz
    obtain ⟨Y, hY⟩ : ∃ Y, Y = IntKind.u64.wrap (bits .and .u64 x (IntKind.u64.wrap (-x)) * 285870213051353865) / 288230376151711744 := ⟨_, rfl⟩
    have hY2 : 0 ≤ Y ∧ Y < 64 := by rw [hY, IntKind.wrap_u64]; omega
    obtain ⟨n, hn, hn2⟩ := HT.out.at (i := Y.toNat) (by omega)
    have hY1 := hY2.1
    have hY3 := hY2.2
    rw [hY] at hn hY1 hY3
    have HN := hid hn2
    have hw : wrap64 (n : Int) = (n : Int) := by unfold wrap64; omega
    clear hY2 hY hn2 HT Y
    go_enter Tryd.func53, Tryd.ntmps53
    go_wp2_with fail
    go_ret
    exact ⟨⟨n, HN.out, by simp [hw]⟩, rfl⟩
/-- A key's height is from one to twelve. -/
theorem height_m {w : World} (h : Tab w) {ao : Option Addr} {len cap : Nat} {xs : List Int} (hs : Sl w ao len cap xs) : Calls Tryd.prog 47 #[.slice ao len cap] w fun e w' => (∃ n : Nat, 1 ≤ n ∧ n ≤ 12 ∧ e = .returned (.int .i64 (n : Int))) ∧ w' = w := by
  have HT := hid h
  have HS := hid hs
  have hl63 : len ≤ 2 ^ 63 - 1 := by have := hs.2.2.2.2.1; have := hs.2.2.2.1; unfold maxLen at *; omega
  clear h hs
  go_enter Tryd.func47, Tryd.ntmps47
  go_wp2_with fail
  go_loopg [3, 5, 8] len (fun g s _ i wr => wr = w ∧ ∃ (j : Nat) (x : Int), j + g = len ∧ i = .int .i64 (j : Int) ∧ s = .int .u64 x ∧ Hid (0 ≤ x ∧ x < 18446744073709551616))
  case atStart => exact ⟨rfl, 0, 1, by omega, rfl, rfl, by decide, by decide⟩
  case round =>
    obtain ⟨rfl, j, x, hj, rfl, rfl, hx⟩ := hrel
    by_cases hlt : j < len
    · have hlt' : (j : Int) < (len : Int) := by omega
      obtain ⟨hc, b, off, rfl, hcell⟩ := HS.out.2.2.2.2.2 j hlt
      generalize xof xs j = c at hc hcell
      go_wp2_with fail
      go_roundg (gk - 1)
      case measure => omega
      case rel => exact ⟨rfl, j + 1, _, by omega, by go_num, rfl, by
        show 0 ≤ _ ∧ _ < _
        rw [Int.tmod_eq_emod_of_nonneg (by rw [IntKind.wrap_u64]; omega)]
        omega⟩
    · have hlt' : (len : Int) ≤ (j : Int) := by omega
      have htz := tz_m HT.out hx.out
      clear hj hlt
      go_wp2_with fail
      refine htz.mono ?_
      rintro e w' ⟨⟨n, hn, rfl⟩, rfl⟩
      go_wp2_with fail
      · exact bodyPost_ret (v := .int .i64 ((12 : Nat) : Int)) (by simp [results, Tryd.results47, go_sem]) rfl ⟨⟨12, by omega, by omega, rfl⟩, rfl⟩
      · exact bodyPost_ret (v := .int .i64 ((1 + n / 2 : Nat) : Int)) (by simp [results, Tryd.results47, go_sem]) rfl ⟨⟨1 + n / 2, by omega, by omega, rfl⟩, rfl⟩
end Go.Proofs.YtaefddnmldbgiaaDoor

/- How the landed mem lies in memory. -/
namespace Go.Proofs.YtaefddnmldbgiaaDoor
open Go.RowKit
set_option linter.unusedVariables false
set_option linter.unusedSimpArgs false

/-- A pointer to a block. -/
def ptr (b : Nat) : Value := .pointer (some ⟨b, 0, none⟩)
def ptrO : Option Nat → Value
  | none => .pointer none
  | some b => ptr b
/-- What a value of one's own lies in. -/
def Ows (v : Value) (k : Nat) : Prop := v.ownBlock = some k
theorem ownsRow_keep {w w' : World} {B : Nat} {e : TypeId} {sz : Nat} {v : Value} {n : Nat} {us : List Value} (h : w.ownsRow B e sz v n us) (hk : ∀ k, Ows v k → w'.heap[k]? = w.heap[k]?) : w'.ownsRow B e sz v n us := by
  refine ⟨h.1, ?_⟩
  rcases h.2 with q | ⟨g, cap, cur, q1, q2, q3, q4⟩
  · exact .inl q
  · exact .inr ⟨g, cap, cur, q1, q2, (hk g (by rw [q1]; rfl)).trans q3, q4⟩
theorem ownsRow_lt {w : World} {B : Nat} {e : TypeId} {sz : Nat} {v : Value} {n : Nat} {us : List Value} (h : w.ownsRow B e sz v n us) {k : Nat} (hk : Ows v k) : k < w.heap.size := by
  rcases h.2 with q | ⟨g, cap, cur, q1, q2, q3, q4⟩
  · rw [q.1] at hk; cases hk
  · rw [q1] at hk
    obtain rfl : g = k := by simpa [Ows, Value.ownBlock] using hk
    exact (Array.getElem?_eq_some_iff.1 q3).1
/-- Its block's type. -/
theorem ownsRow_ty {w : World} {B : Nat} {e : TypeId} {sz : Nat} {v : Value} {n : Nat} {us : List Value} (h : w.ownsRow B e sz v n us) {k : Nat} (hk : Ows v k) : ∃ C, w.heap[k]? = some (.cells C e (0, 0)) := by
  rcases h.2 with q | ⟨g, cap, cur, q1, q2, q3, q4⟩
  · rw [q.1] at hk; cases hk
  · rw [q1] at hk
    obtain rfl : g = k := by simpa [Ows, Value.ownBlock] using hk
    exact ⟨cur, q3⟩
theorem ty_ne {w : World} {a b : Nat} {C D : Array Value} {s t : TypeId} {f g : Nat × Nat} (h1 : w.heap[a]? = some (.cells C s f)) (h2 : w.heap[b]? = some (.cells D t g)) (h : s ≠ t) : a ≠ b := by
  rintro rfl
  rw [h1] at h2
  simp only [Option.some.injEq, Obj.cells.injEq] at h2
  exact h h2.2.1
/-- An entry of a key. -/
structure VrAt (w : World) (v : Vr) : Prop where
  blk : w.heap[v.b]? = some (.cells #[.int .i64 v.seq, .bool v.gone, .int .i64 v.till, v.vv] 70 (0, 0))
  val : Row 0 w v.vv v.val
  ok : Okb v.val
  i1 : In64 v.seq
  i2 : In64 v.till
/-- A key and its entries. -/
structure NdAt (w : World) (n : Nd) : Prop where
  blk : ∃ C, w.heap[n.b]? = some (.cells C 57 (0, 0)) ∧ C.size = 14 ∧ C[0]? = some n.kv ∧ C[1]? = some n.rv
  key : Row 0 w n.kv n.key
  ok : Okb n.key
  row : w.ownsRow 0 62 1 n.rv n.vs.length (n.vs.map fun v => ptr v.b)
  vs : ∀ v ∈ n.vs, VrAt w v
  h : 1 ≤ n.h ∧ n.h ≤ 12
/-- The blocks of a key. -/
def NF (n : Nd) (k : Nat) : Prop := k = n.b ∨ Ows n.kv k ∨ Ows n.rv k ∨ ∃ v ∈ n.vs, k = v.b ∨ Ows v.vv k
theorem VrAt.keep {w w' : World} {v : Vr} (h : VrAt w v) (hk : ∀ k, k = v.b ∨ Ows v.vv k → w'.heap[k]? = w.heap[k]?) : VrAt w' v :=
  ⟨(hk _ (.inl rfl)).trans h.blk, ownsRow_keep h.val fun k q => hk k (.inr q), h.ok, h.i1, h.i2⟩
theorem NdAt.keep {w w' : World} {n : Nd} (h : NdAt w n) (hk : ∀ k, NF n k → w'.heap[k]? = w.heap[k]?) : NdAt w' n := by
  obtain ⟨C, c1, c2⟩ := h.blk
  exact ⟨⟨C, (hk _ (.inl rfl)).trans c1, c2⟩, ownsRow_keep h.key fun k q => hk k (.inr (.inl q)), h.ok, ownsRow_keep h.row fun k q => hk k (.inr (.inr (.inl q))), fun v hv => (h.vs v hv).keep fun k q => hk k (.inr (.inr (.inr ⟨v, hv, q⟩))), h.h⟩
theorem NdAt.lt {w : World} {n : Nd} (h : NdAt w n) {k : Nat} (hk : NF n k) : k < w.heap.size := by
  rcases hk with rfl | q | q | ⟨v, hv, rfl | q⟩
  · obtain ⟨C, c1, c2⟩ := h.blk
    exact (Array.getElem?_eq_some_iff.1 c1).1
  · exact ownsRow_lt h.key q
  · exact ownsRow_lt h.row q
  · exact (Array.getElem?_eq_some_iff.1 (h.vs v hv).blk).1
  · exact ownsRow_lt (h.vs v hv).val q
/-- A level: from a block on, one behind another. -/
def Chain (w : World) (i : Nat) : Nat → List Nat → Prop
  | b, [] => w.cell? ⟨b, 2 + i, none⟩ = some (.pointer none)
  | b, c :: cs => w.cell? ⟨b, 2 + i, none⟩ = some (ptr c) ∧ Chain w i c cs
theorem Chain.keep {w w' : World} {i : Nat} : ∀ {cs : List Nat} {b : Nat}, Chain w i b cs → (∀ k, k = b ∨ k ∈ cs → w'.cell? ⟨k, 2 + i, none⟩ = w.cell? ⟨k, 2 + i, none⟩) → Chain w' i b cs
  | [], b, h, hk => by
    show _ = _
    rw [hk b (.inl rfl)]
    exact h
  | c :: cs, b, h, hk => ⟨by rw [hk b (.inl rfl)]; exact h.1, h.2.keep fun k q => hk k (.inr (by rcases q with rfl | q <;> simp [*]))⟩
/-- The last of a row, or the head. -/
def lastB (p : Nat) : List Nat → Nat
  | [] => p
  | c :: cs => lastB c cs
theorem lastB_app (p : Nat) (a : List Nat) (c : Nat) : lastB p (a ++ [c]) = c := by
  induction a generalizing p with
  | nil => rfl
  | cons x a ih => exact ih x
theorem lastB_mem : ∀ (p : Nat) (a : List Nat), lastB p a = p ∨ lastB p a ∈ a
  | p, [] => .inl rfl
  | p, c :: cs => by
    rcases lastB_mem c cs with q | q
    · exact .inr (by show lastB c cs ∈ _; rw [q]; simp)
    · exact .inr (List.mem_cons_of_mem _ q)
theorem Chain.from {w : World} {i : Nat} : ∀ {X Y : List Nat} {p : Nat}, Chain w i p (X ++ Y) → Chain w i (lastB p X) Y
  | [], Y, p, h => h
  | c :: X, Y, p, h => Chain.from (X := X) (p := c) h.2
theorem Chain.next {w : World} {i : Nat} {p : Nat} {Y : List Nat} (h : Chain w i p Y) : w.cell? ⟨p, 2 + i, none⟩ = some (ptrO Y.head?) := by
  cases Y with
  | nil => exact h
  | cons c cs => exact h.1
/-- The keys of a level. -/
def lev (ns : List Nd) (i : Nat) : List Nat := (ns.filter fun n => i < n.h).map Nd.b
theorem lev_app (a b : List Nd) (i : Nat) : lev (a ++ b) i = lev a i ++ lev b i := by simp [lev]
theorem lev_mem {ns : List Nd} {i k : Nat} (h : k ∈ lev ns i) : ∃ n ∈ ns, k = n.b ∧ i < n.h := by
  unfold lev at h
  obtain ⟨n, hn, rfl⟩ := List.mem_map.1 h
  rw [List.mem_filter] at hn
  exact ⟨n, hn.1, rfl, by simpa using hn.2⟩
/-- The mem: all but its levels. -/
structure Bas (w : World) (p : Nat) (ns : List Nd) (c wt : Int) : Prop where
  tab : Tab w
  head : ∃ C, w.heap[p]? = some (.cells C 59 (0, 0)) ∧ C.size = 16 ∧ C[14]? = some (.int .i64 c) ∧ C[15]? = some (.int .i64 wt)
  nd : ∀ n ∈ ns, NdAt w n
  ord : ordN ns
  nb : (ns.map Nd.b).Nodup
  rw : ns.Pairwise fun a b => ∀ k, Ows a.rv k → ¬ Ows b.rv k
/-- The mem. -/
structure MemAt (w : World) (p : Nat) (ns : List Nd) (c wt : Int) : Prop where
  bas : Bas w p ns c wt
  lv : ∀ i, i < 12 → Chain w i p (lev ns i)
def FP (p : Nat) (ns : List Nd) (k : Nat) : Prop := k = p ∨ ∃ n ∈ ns, NF n k
theorem Bas.lt {w : World} {p : Nat} {ns : List Nd} {c wt : Int} (h : Bas w p ns c wt) {k : Nat} (hk : FP p ns k) : k < w.heap.size := by
  rcases hk with rfl | ⟨n, hn, q⟩
  · obtain ⟨C, c1, c2⟩ := h.head
    exact (Array.getElem?_eq_some_iff.1 c1).1
  · exact (h.nd n hn).lt q
theorem Bas.keep {w w' : World} {p : Nat} {ns : List Nd} {c wt : Int} (h : Bas w p ns c wt) (hk : ∀ k, FP p ns k → w'.heap[k]? = w.heap[k]?) (ht : w'.heap[1]? = w.heap[1]?) : Bas w' p ns c wt := by
  obtain ⟨C, c1, c2⟩ := h.head
  exact ⟨h.tab.keep ht, ⟨C, (hk p (.inl rfl)).trans c1, c2⟩, fun n hn => (h.nd n hn).keep fun k q => hk k (.inr ⟨n, hn, q⟩), h.ord, h.nb, h.rw⟩
theorem fp_lev {p : Nat} {ns : List Nd} {i k : Nat} (h : k = p ∨ k ∈ lev ns i) : FP p ns k := by
  rcases h with rfl | q
  · exact .inl rfl
  · obtain ⟨n, hn, rfl, _⟩ := lev_mem q
    exact .inr ⟨n, hn, .inl rfl⟩
theorem MemAt.keep {w w' : World} {p : Nat} {ns : List Nd} {c wt : Int} (h : MemAt w p ns c wt) (hk : ∀ k, FP p ns k → w'.heap[k]? = w.heap[k]?) (ht : w'.heap[1]? = w.heap[1]?) : MemAt w' p ns c wt :=
  ⟨h.bas.keep hk ht, fun i hi => (h.lv i hi).keep fun k q => World.cell?_of_block (a := ⟨k, 2 + i, none⟩) (hk k (fp_lev q))⟩
theorem MemAt.later {w w' : World} {p : Nat} {ns : List Nd} {c wt : Int} (h : MemAt w p ns c wt) (hb : Below w.heap.size w w') : MemAt w' p ns c wt :=
  h.keep (fun k hk => hb.block k (h.bas.lt hk)) (hb.block 1 (by have := h.bas.tab.lt; omega))
theorem NdAt.cells {w : World} {n : Nd} (h : NdAt w n) : w.cell? ⟨n.b, 0, none⟩ = some n.kv ∧ w.cell? ⟨n.b, 1, none⟩ = some n.rv := by
  obtain ⟨C, c1, c2, c3, c4⟩ := h.blk
  rw [cell_of c1, cell_of c1]
  exact ⟨c3, c4⟩
theorem NdAt.sl {w : World} {n : Nd} (h : NdAt w n) : ∃ a c, n.kv = .slice a n.key.length c ∧ Sl w a n.key.length c n.key := Sl.ofRow h.key h.ok
theorem VrAt.sl {w : World} {v : Vr} (h : VrAt w v) : ∃ a c, v.vv = .slice a v.val.length c ∧ Sl w a v.val.length c v.val := Sl.ofRow h.val h.ok
theorem VrAt.cells {w : World} {v : Vr} (h : VrAt w v) : w.cell? ⟨v.b, 0, none⟩ = some (.int .i64 v.seq) ∧ w.cell? ⟨v.b, 1, none⟩ = some (.bool v.gone) ∧ w.cell? ⟨v.b, 2, none⟩ = some (.int .i64 v.till) ∧ w.cell? ⟨v.b, 3, none⟩ = some v.vv := by
  rw [cell_of h.blk, cell_of h.blk, cell_of h.blk, cell_of h.blk]
  exact ⟨rfl, rfl, rfl, rfl⟩
/-- The row of a key's entries. -/
theorem NdAt.rowv {w : World} {n : Nd} (h : NdAt w n) : ∃ ao cap, n.rv = .slice ao n.vs.length cap ∧ n.vs.length ≤ cap ∧ cap ≤ maxLen ∧ (ao = none → n.vs.length = 0) ∧ ∀ i v, n.vs[i]? = some v → ∃ b, ao = some ⟨b, 0, none⟩ ∧ w.cell? ⟨b, i, none⟩ = some (ptr v.b) := by
  have h1 := h.row
  rcases h1.2 with q | ⟨g, cap, cur, q1, q2, q3, q4, q5, q6, q7⟩
  · refine ⟨none, 0, by rw [q.2]; exact q.1, by omega, Nat.zero_le _, fun _ => q.2, fun i v hv => ?_⟩
    rw [List.eq_nil_of_length_eq_zero q.2] at hv
    simp at hv
  · refine ⟨_, _, q1, q4, q5, (fun e => by cases e), fun i v hv => ⟨g, rfl, ?_⟩⟩
    have hi := (List.getElem?_eq_some_iff.1 hv).1
    rw [cell_of q3]
    have e : (cur.toList.take (n.vs.length * 1))[i]? = some (ptr v.b) := by
      rw [q7, List.getElem?_map, hv]; rfl
    rw [List.getElem?_take, if_pos (by omega)] at e
    simpa using e
end Go.Proofs.YtaefddnmldbgiaaDoor

/- What the landed mem finds among a key's entries. -/
namespace Go.Proofs.YtaefddnmldbgiaaDoor
open Go.RowKit
set_option linter.unusedVariables false
set_option linter.unusedSimpArgs false

theorem vcmp_m {w : World} {v : Vr} (h : VrAt w v) {s : Int} : Calls Tryd.prog 50 #[ptr v.b, .int .i64 s] w fun e w' => e = .returned (.int .i64 (cmpI v.seq s)) ∧ w' = w := by
  have c := h.cells.1
  clear h
  have hc := @cmp64_m w v.seq s
  unfold ptr
  go_enter Tryd.func50, Tryd.ntmps50
  go_wp2_with fail
  refine hc.mono ?_
  rintro e w' ⟨rfl, rfl⟩
  go_wp2_with fail
  go_ret
  exact ⟨by simp, rfl⟩
theorem cmpI_lt (a b : Int) : (cmpI a b < 0) ↔ a < b := by
  unfold cmpI
  split
  · simp; assumption
  · split <;> simp <;> omega
theorem cmpI_eq (a b : Int) : (cmpI a b = 0) ↔ a = b := by
  unfold cmpI
  split
  · simp; omega
  · split <;> simp <;> omega
/-- What has been found out: all below lo are less, none from hi on is. -/
def Bet (vs : List Vr) (s : Int) (lo hi : Nat) : Prop := lo ≤ hi ∧ hi ≤ vs.length ∧ (∀ j (hj : j < vs.length), j < lo → vs[j].seq < s) ∧ ∀ j (hj : j < vs.length), hi ≤ j → s ≤ vs[j].seq

set_option maxHeartbeats 2000000 in
set_option maxRecDepth 100000 in
theorem bsf_m {w : World} {n : Nd} (h : NdAt w n) (hvl : n.vs.length ≤ 100000) (ho : n.vs.Pairwise fun a b => a.seq < b.seq) {s : Int} : Calls Tryd.prog 49 #[n.rv, .int .i64 s, .func (.func 50) #[] #[]] w fun e w' => e = .returned (.tuple #[.int .i64 (plc n.vs s : Nat), .bool (the n.vs s)]) ∧ w' = w := by
  obtain ⟨ao, cap, hrv, h1, h2, h3, h4⟩ := h.rowv
  have HC : Hid (∀ i v, n.vs[i]? = some v → ∃ b, ao = some ⟨b, 0, none⟩ ∧ w.cell? ⟨b, i, none⟩ = some (ptr v.b)) := h4
  have HV := hid h.vs
  have HO := hid ho
  rw [hrv]
  obtain ⟨N, hN⟩ : ∃ N, N = n.vs.length := ⟨_, rfl⟩
  rw [← hN] at h1 h3 ⊢
  have HN := hid hN
  have hN62 : N ≤ 2 ^ 47 := by omega
  have H0 : Hid (Bet n.vs s 0 N) := ⟨Nat.zero_le _, by omega, (fun j hj q => by omega), fun j hj q => by omega⟩
  clear h h2 h3 h4 ho hrv hN h1
  go_enter Tryd.func49, Tryd.ntmps49
  go_wp2_with fail
  go_loopg [9, 10, 11] N (fun g i j _ wr => wr = w ∧ ∃ lo hi : Nat, i = .int .i64 (lo : Int) ∧ j = .int .i64 (hi : Int) ∧ hi - lo = g ∧ hi ≤ N ∧ lo ≤ hi ∧ Hid (Bet n.vs s lo hi))
  case atStart => exact ⟨rfl, 0, N, rfl, rfl, by omega, by omega, by omega, H0⟩
  case round =>
    obtain ⟨rfl, lo, hi, rfl, rfl, hg, hn, hle, HB⟩ := hrel
    by_cases hlt : lo < hi
    · have hlt' : (lo : Int) < (hi : Int) := by omega
      obtain ⟨M, hM⟩ : ∃ M, M = (lo + hi) / 2 := ⟨_, rfl⟩
      have hM1 : ((lo : Int) + (hi : Int)) / 2 = (M : Int) := by omega
      have hMl : M < n.vs.length := by have := HN.out; omega
      have HM : Hid (lo ≤ M ∧ M < hi) := ⟨by omega, by omega⟩
      obtain ⟨b, rfl, hcell⟩ := HC.out M _ (List.getElem?_eq_getElem hMl)
      have hvc := vcmp_m (s := s) (HV.out _ (List.getElem_mem hMl))
      have hMN : (M : Int) < (N : Int) := by have := HN.out; omega
      have hMN' : M < N := by omega
      obtain ⟨S, hS⟩ : ∃ S, S = cmpI n.vs[M].seq s := ⟨_, rfl⟩
      have HSI : Hid (S < 0 ↔ n.vs[M].seq < s) := by rw [hS]; exact cmpI_lt _ _
      rw [← hS] at hvc
      unfold ptr at hvc hcell
      clear hS hM
      go_wp2_with fail
      refine hvc.mono ?_
      rintro e w' ⟨rfl, rfl⟩
      clear hvc
      by_cases hS : S < 0
      · have HBN : Hid (Bet n.vs s (M + 1) hi) := ⟨by have := HM.out; omega, HB.out.2.1, (fun j hj q => by
          have h1 := HSI.out.1 hS
          rcases Nat.lt_or_ge j M with a | a
          · have := List.pairwise_iff_getElem.1 HO.out j M hj hMl a; omega
          · obtain rfl : j = M := by omega
            exact h1), HB.out.2.2.2⟩
        go_wp2_with fail
        go_roundg (hi - (M + 1))
        case measure => have := HM.out; omega
        case rel => exact ⟨rfl, M + 1, hi, by go_num, rfl, rfl, hn, by have := HM.out; omega, HBN⟩
      · have hS' : 0 ≤ S := by omega
        have HBN : Hid (Bet n.vs s lo M) := ⟨HM.out.1, by omega, HB.out.2.2.1, (fun j hj q => by
          have h1 : ¬ n.vs[M].seq < s := fun e => hS (HSI.out.2 e)
          rcases Nat.eq_or_lt_of_le q with a | a
          · subst a; omega
          · have := List.pairwise_iff_getElem.1 HO.out M j hMl hj a; omega)⟩
        go_wp2_with fail
        go_roundg (M - lo)
        case measure => have := HM.out; omega
        case rel => exact ⟨rfl, lo, M, rfl, rfl, rfl, by have := HM.out; omega, HM.out.1, HBN⟩
    · obtain rfl : lo = hi := by omega
      have hP : plc n.vs s = lo := plc_eq HO.out HB.out.2.1 HB.out.2.2.1 HB.out.2.2.2
      have HP := hid hP
      by_cases hl : lo < N
      · have hl' : (lo : Int) < (N : Int) := by omega
        have hMl : lo < n.vs.length := by have := HN.out; omega
        obtain ⟨b, rfl, hcell⟩ := HC.out lo _ (List.getElem?_eq_getElem hMl)
        have hvc := vcmp_m (s := s) (HV.out _ (List.getElem_mem hMl))
        have HT : Hid (the n.vs s = (cmpI n.vs[lo].seq s == 0)) := by
          show _ = _
          unfold the
          rw [hP, List.getElem?_eq_getElem hMl]
          simp only
          rw [Bool.eq_iff_iff]
          simp [cmpI_eq]
        generalize cmpI n.vs[lo].seq s = S at HT hvc
        unfold ptr at hvc hcell
        clear hP hlt
        go_wp2_with fail
        refine hvc.mono ?_
        rintro e w' ⟨rfl, rfl⟩
        clear hvc
        go_wp2_with fail
        exact bodyPost_ret (v := .tuple #[.int .i64 (lo : Int), .bool (S == 0)]) (by simp [results, Tryd.results49, go_sem]) rfl ⟨by rw [HT.out, HP.out], rfl⟩
      · have hl' : (N : Int) ≤ (lo : Int) := by omega
        have HT : Hid (the n.vs s = false) := by
          show _ = _
          unfold the
          rw [hP, List.getElem?_eq_none (by have := HN.out; omega)]
        clear hP hlt
        go_wp2_with fail
        exact bodyPost_ret (v := .tuple #[.int .i64 (lo : Int), .bool false]) (by simp [results, Tryd.results49, go_sem]) rfl ⟨by rw [HT.out, HP.out], rfl⟩
/-- Where a number stands, and whether it is there. -/
theorem place_m {w : World} {n : Nd} (h : NdAt w n) (hvl : n.vs.length ≤ 100000) (ho : n.vs.Pairwise fun a b => a.seq < b.seq) {s : Int} : Calls Tryd.prog 43 #[ptr n.b, .int .i64 s] w fun e w' => e = .returned (.tuple #[.int .i64 (plc n.vs s : Nat), .bool (the n.vs s)]) ∧ w' = w := by
  have hb := bsf_m h hvl ho (s := s)
  have c := h.cells.2
  clear h ho hvl
  unfold ptr
  generalize the n.vs s = T at hb ⊢
  generalize plc n.vs s = P at hb ⊢
  go_enter Tryd.func43, Tryd.ntmps43
  go_wp2_with fail
  refine hb.mono ?_
  rintro e w' ⟨rfl, rfl⟩
  clear hb
  go_wp2_with fail
  exact bodyPost_ret (v := .tuple #[.int .i64 (P : Int), .bool T]) (by simp [results, Tryd.results43, go_sem]) rfl ⟨rfl, rfl⟩
/-- The newest that is not newer. -/
theorem at_m {w : World} {n : Nd} (h : NdAt w n) (hvl : n.vs.length ≤ 100000) (ho : n.vs.Pairwise fun a b => a.seq < b.seq) {s : Int} : Calls Tryd.prog 32 #[ptr n.b, .int .i64 s] w fun e w' => e = .returned (ptrO ((atO n.vs s).map Vr.b)) ∧ w' = w := by
  have hb := place_m h hvl ho (s := s)
  have c := h.cells.2
  obtain ⟨ao, cap, hrv, h1, h2, h3, h4⟩ := h.rowv
  have HC : Hid (∀ i v, n.vs[i]? = some v → ∃ b, ao = some ⟨b, 0, none⟩ ∧ w.cell? ⟨b, i, none⟩ = some (ptr v.b)) := h4
  rw [hrv] at c
  obtain ⟨N, hN⟩ : ∃ N, N = n.vs.length := ⟨_, rfl⟩
  have hpl := plc_le n.vs s
  unfold atO
  generalize hT : the n.vs s = T at hb ⊢
  have HPI := hid (fun h : the n.vs s = true => the_true h)
  generalize hP : plc n.vs s = P at hb hpl HPI ⊢
  rw [← hN] at c hpl
  have HN := hid hN
  have hN5 : N ≤ 100000 := by omega
  clear h ho hvl hrv h1 h2 h3 h4 hN
  unfold ptr at hb ⊢
  cases T with
  | true =>
    obtain ⟨v, hv, _⟩ := HPI.out hT
    have hl : P < N := by have := (List.getElem?_eq_some_iff.1 hv).1; have := HN.out; omega
    have hl' : (P : Int) < (N : Int) := by omega
    obtain ⟨b, rfl, hcell⟩ := HC.out P v hv
    rw [if_pos rfl, hv]
    simp only [Option.map_some, ptrO]
    unfold ptr at hcell ⊢
    clear hT HPI hP hv
    go_enter Tryd.func32, Tryd.ntmps32
    go_wp2_with fail
    refine hb.mono ?_
    rintro e w' ⟨rfl, rfl⟩
    clear hb
    go_wp2_with fail
    go_ret
    exact ⟨by simp, rfl⟩
  | false =>
    rw [if_neg (by decide)]
    by_cases hz : P = 0
    · subst hz
      rw [if_pos rfl]
      simp only [Option.map_none, ptrO]
      clear hT HPI hP
      go_enter Tryd.func32, Tryd.ntmps32
      go_wp2_with fail
      refine hb.mono ?_
      rintro e w' ⟨rfl, rfl⟩
      clear hb
      go_wp2_with fail
      go_ret
      exact ⟨by simp, rfl⟩
    · rw [if_neg hz]
      have hl : P - 1 < n.vs.length := by have := HN.out; omega
      obtain ⟨b, rfl, hcell⟩ := HC.out (P - 1) _ (List.getElem?_eq_getElem hl)
      rw [List.getElem?_eq_getElem hl]
      simp only [Option.map_some, ptrO]
      unfold ptr at hcell ⊢
      generalize n.vs[P - 1].b = B at hcell ⊢
      obtain ⟨Q, rfl⟩ : ∃ Q, P = Q + 1 := ⟨P - 1, by omega⟩
      have hq : Q < N := by omega
      have hq6 : (Q : Int) ≤ 100000 := by omega
      have hq' : (Q : Int) < (N : Int) := by omega
      rw [Nat.add_sub_cancel] at hcell
      clear hT HPI hP hz hpl hl
      go_enter Tryd.func32, Tryd.ntmps32
      go_wp2_with fail
      refine hb.mono ?_
      rintro e w' ⟨rfl, rfl⟩
      clear hb
      go_wp2_with fail
      go_ret
      exact ⟨by simp, rfl⟩
end Go.Proofs.YtaefddnmldbgiaaDoor

/- How the landed mem lies in memory. -/
import Derived.Test.YtaefddnmldbgiabDoorNpur
import Derived.Test.YtaefddnmldbgiabDoorNsml
namespace Go.Proofs.YtaefddnmldbgiabDoor
open Go.RowKit
set_option linter.unusedVariables false
set_option linter.unusedSimpArgs false

/-- A pointer to a block. -/
def ptr (b : Nat) : Value := .pointer (some ⟨b, 0, none⟩)
def ptrO : Option Nat → Value
  | none => .pointer none
  | some b => ptr b
/-- What a value of one's own lies in. -/
def Ows (v : Value) (k : Nat) : Prop := v.ownBlock = some k
theorem ownsRow_keep {w w' : World} {B : Nat} {e : TypeId} {sz : Nat} {v : Value} {n : Nat} {us : List Value} (h : w.ownsRow B e sz v n us) (hk : ∀ k, Ows v k → w'.heap[k]? = w.heap[k]?) : w'.ownsRow B e sz v n us := by
  refine ⟨h.1, ?_⟩
  rcases h.2 with q | ⟨g, cap, cur, q1, q2, q3, q4⟩
  · exact .inl q
  · exact .inr ⟨g, cap, cur, q1, q2, (hk g (by rw [q1]; rfl)).trans q3, q4⟩
theorem ownsRow_lt {w : World} {B : Nat} {e : TypeId} {sz : Nat} {v : Value} {n : Nat} {us : List Value} (h : w.ownsRow B e sz v n us) {k : Nat} (hk : Ows v k) : k < w.heap.size := by
  rcases h.2 with q | ⟨g, cap, cur, q1, q2, q3, q4⟩
  · rw [q.1] at hk; cases hk
  · rw [q1] at hk
    obtain rfl : g = k := by simpa [Ows, Value.ownBlock] using hk
    exact (Array.getElem?_eq_some_iff.1 q3).1
/-- Its block's type. -/
theorem ownsRow_ty {w : World} {B : Nat} {e : TypeId} {sz : Nat} {v : Value} {n : Nat} {us : List Value} (h : w.ownsRow B e sz v n us) {k : Nat} (hk : Ows v k) : ∃ C, w.heap[k]? = some (.cells C e (0, 0)) := by
  rcases h.2 with q | ⟨g, cap, cur, q1, q2, q3, q4⟩
  · rw [q.1] at hk; cases hk
  · rw [q1] at hk
    obtain rfl : g = k := by simpa [Ows, Value.ownBlock] using hk
    exact ⟨cur, q3⟩
theorem ty_ne {w : World} {a b : Nat} {C D : Array Value} {s t : TypeId} {f g : Nat × Nat} (h1 : w.heap[a]? = some (.cells C s f)) (h2 : w.heap[b]? = some (.cells D t g)) (h : s ≠ t) : a ≠ b := by
  rintro rfl
  rw [h1] at h2
  simp only [Option.some.injEq, Obj.cells.injEq] at h2
  exact h h2.2.1
/-- An entry of a key. -/
structure VrAt (w : World) (v : Vr) : Prop where
  blk : w.heap[v.b]? = some (.cells #[.int .i64 v.seq, .bool v.gone, .int .i64 v.till, v.vv] 56 (0, 0))
  val : Row 0 w v.vv v.val
  ok : Okb v.val
  i1 : In64 v.seq
  i2 : In64 v.till
/-- A key and its entries. -/
structure NdAt (w : World) (n : Nd) : Prop where
  blk : ∃ C, w.heap[n.b]? = some (.cells C 43 (0, 0)) ∧ C.size = 14 ∧ C[0]? = some n.kv ∧ C[1]? = some n.rv
  key : Row 0 w n.kv n.key
  ok : Okb n.key
  row : w.ownsRow 0 51 1 n.rv n.vs.length (n.vs.map fun v => ptr v.b)
  vs : ∀ v ∈ n.vs, VrAt w v
  h : 1 ≤ n.h ∧ n.h ≤ 12
/-- The blocks of a key. -/
def NF (n : Nd) (k : Nat) : Prop := k = n.b ∨ Ows n.kv k ∨ Ows n.rv k ∨ ∃ v ∈ n.vs, k = v.b ∨ Ows v.vv k
theorem VrAt.keep {w w' : World} {v : Vr} (h : VrAt w v) (hk : ∀ k, k = v.b ∨ Ows v.vv k → w'.heap[k]? = w.heap[k]?) : VrAt w' v :=
  ⟨(hk _ (.inl rfl)).trans h.blk, ownsRow_keep h.val fun k q => hk k (.inr q), h.ok, h.i1, h.i2⟩
theorem NdAt.keep {w w' : World} {n : Nd} (h : NdAt w n) (hk : ∀ k, NF n k → w'.heap[k]? = w.heap[k]?) : NdAt w' n := by
  obtain ⟨C, c1, c2⟩ := h.blk
  exact ⟨⟨C, (hk _ (.inl rfl)).trans c1, c2⟩, ownsRow_keep h.key fun k q => hk k (.inr (.inl q)), h.ok, ownsRow_keep h.row fun k q => hk k (.inr (.inr (.inl q))), fun v hv => (h.vs v hv).keep fun k q => hk k (.inr (.inr (.inr ⟨v, hv, q⟩))), h.h⟩
theorem NdAt.lt {w : World} {n : Nd} (h : NdAt w n) {k : Nat} (hk : NF n k) : k < w.heap.size := by
  rcases hk with rfl | q | q | ⟨v, hv, rfl | q⟩
  · obtain ⟨C, c1, c2⟩ := h.blk
    exact (Array.getElem?_eq_some_iff.1 c1).1
  · exact ownsRow_lt h.key q
  · exact ownsRow_lt h.row q
  · exact (Array.getElem?_eq_some_iff.1 (h.vs v hv).blk).1
  · exact ownsRow_lt (h.vs v hv).val q
/-- A level: from a block on, one behind another. -/
def Chain (w : World) (i : Nat) : Nat → List Nat → Prop
  | b, [] => w.cell? ⟨b, 2 + i, none⟩ = some (.pointer none)
  | b, c :: cs => w.cell? ⟨b, 2 + i, none⟩ = some (ptr c) ∧ Chain w i c cs
theorem Chain.keep {w w' : World} {i : Nat} : ∀ {cs : List Nat} {b : Nat}, Chain w i b cs → (∀ k, k = b ∨ k ∈ cs → w'.cell? ⟨k, 2 + i, none⟩ = w.cell? ⟨k, 2 + i, none⟩) → Chain w' i b cs
  | [], b, h, hk => by
    show _ = _
    rw [hk b (.inl rfl)]
    exact h
  | c :: cs, b, h, hk => ⟨by rw [hk b (.inl rfl)]; exact h.1, h.2.keep fun k q => hk k (.inr (by rcases q with rfl | q <;> simp [*]))⟩
/-- The last of a row, or the head. -/
def lastB (p : Nat) : List Nat → Nat
  | [] => p
  | c :: cs => lastB c cs
theorem lastB_app (p : Nat) (a : List Nat) (c : Nat) : lastB p (a ++ [c]) = c := by
  induction a generalizing p with
  | nil => rfl
  | cons x a ih => exact ih x
theorem lastB_mem : ∀ (p : Nat) (a : List Nat), lastB p a = p ∨ lastB p a ∈ a
  | p, [] => .inl rfl
  | p, c :: cs => by
    rcases lastB_mem c cs with q | q
    · exact .inr (by show lastB c cs ∈ _; rw [q]; simp)
    · exact .inr (List.mem_cons_of_mem _ q)
theorem Chain.from {w : World} {i : Nat} : ∀ {X Y : List Nat} {p : Nat}, Chain w i p (X ++ Y) → Chain w i (lastB p X) Y
  | [], Y, p, h => h
  | c :: X, Y, p, h => Chain.from (X := X) (p := c) h.2
theorem Chain.next {w : World} {i : Nat} {p : Nat} {Y : List Nat} (h : Chain w i p Y) : w.cell? ⟨p, 2 + i, none⟩ = some (ptrO Y.head?) := by
  cases Y with
  | nil => exact h
  | cons c cs => exact h.1
/-- The keys of a level. -/
def lev (ns : List Nd) (i : Nat) : List Nat := (ns.filter fun n => i < n.h).map Nd.b
theorem lev_app (a b : List Nd) (i : Nat) : lev (a ++ b) i = lev a i ++ lev b i := by simp [lev]
theorem lev_mem {ns : List Nd} {i k : Nat} (h : k ∈ lev ns i) : ∃ n ∈ ns, k = n.b ∧ i < n.h := by
  unfold lev at h
  obtain ⟨n, hn, rfl⟩ := List.mem_map.1 h
  rw [List.mem_filter] at hn
  exact ⟨n, hn.1, rfl, by simpa using hn.2⟩
/-- The mem: all but its levels. -/
structure Bas (w : World) (p : Nat) (ns : List Nd) (c wt : Int) : Prop where
  tab : Tab w
  head : ∃ C, w.heap[p]? = some (.cells C 45 (0, 0)) ∧ C.size = 16 ∧ C[14]? = some (.int .i64 c) ∧ C[15]? = some (.int .i64 wt)
  nd : ∀ n ∈ ns, NdAt w n
  ord : ordN ns
  nb : (ns.map Nd.b).Nodup
  rw : ns.Pairwise fun a b => ∀ k, Ows a.rv k → ¬ Ows b.rv k
/-- The mem. -/
structure MemAt (w : World) (p : Nat) (ns : List Nd) (c wt : Int) : Prop where
  bas : Bas w p ns c wt
  lv : ∀ i, i < 12 → Chain w i p (lev ns i)
def FP (p : Nat) (ns : List Nd) (k : Nat) : Prop := k = p ∨ ∃ n ∈ ns, NF n k
theorem Bas.lt {w : World} {p : Nat} {ns : List Nd} {c wt : Int} (h : Bas w p ns c wt) {k : Nat} (hk : FP p ns k) : k < w.heap.size := by
  rcases hk with rfl | ⟨n, hn, q⟩
  · obtain ⟨C, c1, c2⟩ := h.head
    exact (Array.getElem?_eq_some_iff.1 c1).1
  · exact (h.nd n hn).lt q
theorem Bas.keep {w w' : World} {p : Nat} {ns : List Nd} {c wt : Int} (h : Bas w p ns c wt) (hk : ∀ k, FP p ns k → w'.heap[k]? = w.heap[k]?) (ht : w'.heap[1]? = w.heap[1]?) : Bas w' p ns c wt := by
  obtain ⟨C, c1, c2⟩ := h.head
  exact ⟨h.tab.keep ht, ⟨C, (hk p (.inl rfl)).trans c1, c2⟩, fun n hn => (h.nd n hn).keep fun k q => hk k (.inr ⟨n, hn, q⟩), h.ord, h.nb, h.rw⟩
theorem fp_lev {p : Nat} {ns : List Nd} {i k : Nat} (h : k = p ∨ k ∈ lev ns i) : FP p ns k := by
  rcases h with rfl | q
  · exact .inl rfl
  · obtain ⟨n, hn, rfl, _⟩ := lev_mem q
    exact .inr ⟨n, hn, .inl rfl⟩
theorem MemAt.keep {w w' : World} {p : Nat} {ns : List Nd} {c wt : Int} (h : MemAt w p ns c wt) (hk : ∀ k, FP p ns k → w'.heap[k]? = w.heap[k]?) (ht : w'.heap[1]? = w.heap[1]?) : MemAt w' p ns c wt :=
  ⟨h.bas.keep hk ht, fun i hi => (h.lv i hi).keep fun k q => World.cell?_of_block (a := ⟨k, 2 + i, none⟩) (hk k (fp_lev q))⟩
theorem MemAt.later {w w' : World} {p : Nat} {ns : List Nd} {c wt : Int} (h : MemAt w p ns c wt) (hb : Below w.heap.size w w') : MemAt w' p ns c wt :=
  h.keep (fun k hk => hb.block k (h.bas.lt hk)) (hb.block 1 (by have := h.bas.tab.lt; omega))
theorem NdAt.cells {w : World} {n : Nd} (h : NdAt w n) : w.cell? ⟨n.b, 0, none⟩ = some n.kv ∧ w.cell? ⟨n.b, 1, none⟩ = some n.rv := by
  obtain ⟨C, c1, c2, c3, c4⟩ := h.blk
  rw [cell_of c1, cell_of c1]
  exact ⟨c3, c4⟩
theorem NdAt.sl {w : World} {n : Nd} (h : NdAt w n) : ∃ a c, n.kv = .slice a n.key.length c ∧ Sl w a n.key.length c n.key := Sl.ofRow h.key h.ok
theorem VrAt.sl {w : World} {v : Vr} (h : VrAt w v) : ∃ a c, v.vv = .slice a v.val.length c ∧ Sl w a v.val.length c v.val := Sl.ofRow h.val h.ok
theorem VrAt.cells {w : World} {v : Vr} (h : VrAt w v) : w.cell? ⟨v.b, 0, none⟩ = some (.int .i64 v.seq) ∧ w.cell? ⟨v.b, 1, none⟩ = some (.bool v.gone) ∧ w.cell? ⟨v.b, 2, none⟩ = some (.int .i64 v.till) ∧ w.cell? ⟨v.b, 3, none⟩ = some v.vv := by
  rw [cell_of h.blk, cell_of h.blk, cell_of h.blk, cell_of h.blk]
  exact ⟨rfl, rfl, rfl, rfl⟩
/-- The row of a key's entries. -/
theorem NdAt.rowv {w : World} {n : Nd} (h : NdAt w n) : ∃ ao cap, n.rv = .slice ao n.vs.length cap ∧ n.vs.length ≤ cap ∧ cap ≤ maxLen ∧ (ao = none → n.vs.length = 0) ∧ ∀ i v, n.vs[i]? = some v → ∃ b, ao = some ⟨b, 0, none⟩ ∧ w.cell? ⟨b, i, none⟩ = some (ptr v.b) := by
  have h1 := h.row
  rcases h1.2 with q | ⟨g, cap, cur, q1, q2, q3, q4, q5, q6, q7⟩
  · refine ⟨none, 0, by rw [q.2]; exact q.1, by omega, Nat.zero_le _, fun _ => q.2, fun i v hv => ?_⟩
    rw [List.eq_nil_of_length_eq_zero q.2] at hv
    simp at hv
  · refine ⟨_, _, q1, q4, q5, (fun e => by cases e), fun i v hv => ⟨g, rfl, ?_⟩⟩
    have hi := (List.getElem?_eq_some_iff.1 hv).1
    rw [cell_of q3]
    have e : (cur.toList.take (n.vs.length * 1))[i]? = some (ptr v.b) := by
      rw [q7, List.getElem?_map, hv]; rfl
    rw [List.getElem?_take, if_pos (by omega)] at e
    simpa using e
end Go.Proofs.YtaefddnmldbgiabDoor

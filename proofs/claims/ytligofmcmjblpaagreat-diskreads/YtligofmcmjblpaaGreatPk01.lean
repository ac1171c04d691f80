import Derived.Test.YtligofmcmjblpaaGreatRows
import Derived.WalkKit
import Derived.WalkSpells
import Derived.WalkLawsBesides
import Derived.ScopeJumps
import Derived.Deep.Draws
import Derived.Deep.LoopGhost
import Derived.Deep.CutBlock
import Derived.BigQuiet
import Derived.RegionTactic
import Derived.Laws.OwnMore
import Derived.Laws.BytesArg
import Derived.Laws.Shifts
import Derived.Laws.BitsAllLaws
import Derived.Laws.Bits128
import Derived.Handy
/- Rows of bytes: those that came in and are read, and those that the call itself made and appends to. -/
namespace Go.Proofs.YtligofmcmjblpaaGreat
open Go.RowKit

/-- The first n bytes that X tells. -/
def bs (X : Nat → Nat) (n : Nat) : List Int := (List.range n).map fun k => (X k : Int)
theorem bs_length (X : Nat → Nat) (n : Nat) : (bs X n).length = n := by simp [bs]
theorem bs_getD (X : Nat → Nat) (n i : Nat) (h : i < n) : (bs X n).getD i 0 = (X i : Int) := by simp [bs, h]
theorem bs_succ (X : Nat → Nat) (n : Nat) : bs X (n + 1) = bs X n ++ [(X n : Int)] := by simp [bs, List.range_succ]

/-- What is read of a slice of bytes: its cells. -/
def Byt (w : World) (ao : Option Addr) (len : Nat) (X : Nat → Nat) : Prop :=
  ∀ k, k < len → X k < 256 ∧ ∃ b off, ao = some ⟨b, off, none⟩ ∧ w.cell? ⟨b, off + k, none⟩ = some (.int .u8 (X k : Int))

/-- A row of bytes that the call itself made. -/
def Row (B : Nat) (w : World) (v : Value) (xs : List Int) : Prop := w.ownsRow B 5 1 v xs.length (xs.map (Value.int .u8))

theorem _root_.Go.Proofs.Tryz.info5 : (Tryz.prog.info? 5).map (fun i => (i.zero, i.size, i.bytes)) = some (some (.int .u8 0), 1, 1) := by kernel_rfl

/-- Where a value lies behind an append: where it lay, or in a new block. -/
def Moved (w : World) (v v' : Value) : Prop := v'.ownBlock = v.ownBlock ∨ ∃ g, v'.ownBlock = some g ∧ w.heap.size ≤ g

theorem run_app (B : Nat) (w : World) (ty : TypeId) (v : Value) (xs : List Int) (hrow : Row B w v xs) (ao : Option Addr) (m c : Nat) (X : Nat → Nat) (hnil : ao = none → m = 0 ∧ c = 0) (hby : Byt w ao m X)
    (hb : xs.length + m ≤ 140737488355328) (hbase : B ≤ w.heap.size) :
    ∃ v' w', (Builtin.append_ #[27, 27] ty #[v, .slice ao m c]).run Tryz.prog w = .ok v' w' ∧ Row B w' v' (xs ++ bs X m) ∧ w.grownBy w' v.ownBlock ∧ Moved w v v' := by
  obtain ⟨i, hi, hz, hsize, hbytes⟩ := info_parts Tryz.info5
  cases ao with
  | none =>
    obtain ⟨rfl, rfl⟩ := hnil rfl
    refine ⟨v, w, run_append_owned_none (P := Tryz.prog) (w := w) B 27 ty 5 i 1 Tryz.underlying27 hi v _ _ hrow, ?_, ⟨rfl, rfl, rfl, Nat.le_refl _, fun _ _ _ => rfl⟩, .inl rfl⟩
    simpa [bs] using hrow
  | some ad =>
    have hl : ((bs X m).map (Value.int .u8)).length = m * 1 := by simp [bs_length]
    have hnews : ∀ j u, ((bs X m).map (Value.int .u8))[j]? = some u → w.cell? (ad.add j) = some u := by
      intro j u hu
      have hj : j < m := by
        rcases Nat.lt_or_ge j m with h | h
        · exact h
        · rw [List.getElem?_eq_none (by simpa [bs_length] using h)] at hu; cases hu
      obtain ⟨_, b, off, e, hc⟩ := hby j hj
      simp only [Option.some.injEq] at e
      subst e
      rw [Addr.add_lit, hc]
      simp [bs, hj] at hu
      rw [← hu]
    have h1 : ∀ u ∈ (bs X m).map (Value.int .u8), u.oneCell' = true := fun u hu => by
      obtain ⟨_, _, rfl⟩ := List.mem_map.1 hu
      rfl
    obtain ⟨v', w', hr, h2, h3, _⟩ := run_append_own (P := Tryz.prog) w B 27 ty 5 i (.int .u8 0) 1 1 Tryz.underlying27 hi hz hsize hbytes rfl (by decide) v xs.length _ hrow ad m c _ hl hnews h1 (by simp only [maxLen]; omega) (by omega) hbase
    refine ⟨v', w', hr, ?_, h3, ?_⟩
    · unfold Row
      rw [List.map_append, List.length_append, bs_length]
      exact h2
    · rcases hrow.2 with ⟨rfl, h0⟩ | ⟨g, cap, cur, rfl, hbg, hg, hnc, hcm, hcs, htake⟩
      · by_cases hm : m = 0
        · subst hm
          have : (Builtin.append_ #[27, 27] ty #[.slice none 0 0, .slice (some ad) 0 c]).run Tryz.prog w = .ok (.slice none 0 0) w := by
            simp [Builtin.append_, run_underlying Tryz.underlying27, sizeOf, typeInfo, hi, Builtin.lenOf, Builtin.firstCells, loadCells, loadCellsFrom]
          rw [this] at hr
          simp at hr
          rw [← hr.1]
          exact .inl rfl
        · have hr' := run_append_nil (P := Tryz.prog) w 27 ty 5 i (.int .u8 0) Tryz.underlying27 hi hz ad m c _ (by rw [hsize]; exact hl) hnews (by omega) (by omega) (by rw [hbytes]; omega)
          rw [hr'] at hr
          simp at hr
          rw [← hr.1]
          exact .inr ⟨w.heap.size, rfl, Nat.le_refl _⟩
      · by_cases hroom : xs.length + m ≤ cap
        · have hr' := run_append_room (P := Tryz.prog) w 27 ty 5 i Tryz.underlying27 hi g xs.length cap cur hg ad m c _ (by rw [hsize]; exact hl) hnews h1 hroom (by rw [hsize, hl, hcs]; omega)
          rw [hr'] at hr
          simp at hr
          rw [← hr.1]
          exact .inl rfl
        · have holds : ∀ j u, (xs.map (Value.int .u8))[j]? = some u → w.cell? ((⟨g, 0, none⟩ : Addr).add j) = some u := World.ownsRow.cells hrow (g := g) rfl
          have hr' := run_append_grow (P := Tryz.prog) w 27 ty 5 i (.int .u8 0) Tryz.underlying27 hi hz ⟨g, 0, none⟩ xs.length cap _ (by rw [hsize]; simp) holds ad m c _ (by rw [hsize]; exact hl) hnews (by omega) (by omega) (growslice_fits (by omega) (by rw [hbytes]; omega))
          rw [hr'] at hr
          simp at hr
          rw [← hr.1]
          exact .inr ⟨w.heap.size, rfl, Nat.le_refl _⟩

theorem wp_app {w : World} {o : Oper} {a : Act} {K : Act → World → Prop} {Q : Exit → Act → World → Prop} (s x : Operand)
    (ho : o.op = .call { callee := .builtin .append, args := #[s, x], argTypes := #[27, 27] }) (B : Nat) (v : Value) (xs : List Int) (hs : a.eval s = v) (hrow : Row B w v xs)
    (ao : Option Addr) (m c : Nat) (X : Nat → Nat) (hx : a.eval x = .slice ao m c) (hnil : ao = none → m = 0 ∧ c = 0) (hby : Byt w ao m X) (hb : xs.length + m ≤ 140737488355328) (hbase : B ≤ w.heap.size)
    (h : ∀ v' w', Row B w' v' (xs ++ bs X m) → w.grownBy w' v.ownBlock → Moved w v v' → K (a.put o.dst v') w') : o.wp Tryz.prog a w K Q := by
  obtain ⟨v', w', hr, h2, h3, h4⟩ := run_app B w o.type v xs hrow ao m c X hnil hby hb hbase
  unfold Oper.wp execOp
  simp only [ho, resolve, invoke, builtin, Sem.run_bind, Sem.run_pure, Result.andThen_ok, List.map_toArray, List.map_cons, List.map_nil, hs, hx, hr]
  exact h v' w' h2 h3 h4

theorem wpList_app {w : World} {ops : Array Oper} {rest : List Oper} {o : Oper} {a : Act} {Q : Exit → Act → World → Prop} (hgd : o.guard = none) (s x : Operand)
    (ho : o.op = .call { callee := .builtin .append, args := #[s, x], argTypes := #[27, 27] }) (B : Nat) (v : Value) (xs : List Int) (hs : a.eval s = v) (hrow : Row B w v xs)
    (ao : Option Addr) (m c : Nat) (X : Nat → Nat) (hx : a.eval x = .slice ao m c) (hnil : ao = none → m = 0 ∧ c = 0) (hby : Byt w ao m X) (hb : xs.length + m ≤ 140737488355328) (hbase : B ≤ w.heap.size)
    (h : ∀ v' w', Row B w' v' (xs ++ bs X m) → w.grownBy w' v.ownBlock → Moved w v v' → wpList Tryz.prog ops Q rest (a.put o.dst v') w') : wpList Tryz.prog ops Q (o :: rest) a w :=
  wpList_plain hgd fun _ hK => wp_app s x ho B v xs hs hrow ao m c X hx hnil hby hb hbase fun v' w' h2 h3 h4 => hK _ _ (h v' w' h2 h3 h4)

theorem grown_below {B : Nat} {w w' : World} {v : Value} {xs : List Int} (hrow : Row B w v xs) (hg : w.grownBy w' v.ownBlock) (hB : B ≤ w.heap.size) : Below B w w' :=
  Below.grown (Below.refl B w) hg hB (fun k hk => (World.ownsRow.lt hrow k hk).1)

theorem Byt.later {w w' : World} {ao : Option Addr} {len : Nat} {X : Nat → Nat} (h : Byt w ao len X) (hb : Below w.heap.size w w') : Byt w' ao len X := fun k hk => by
  obtain ⟨h1, b, off, e, hc⟩ := h k hk
  exact ⟨h1, b, off, e, cell_later hb hc⟩

/-- The string of a row of bytes that is read. -/
theorem run_str {w : World} {ao : Option Addr} {len cap : Nat} {X : Nat → Nat} (h : Byt w ao len X) (hnil : ao = none → len = 0 ∧ cap = 0) :
    (convert 27 9 (.slice ao len cap)).run Tryz.prog w = .ok (.string (strOfNums (bs X len))) w := by
  cases ao with
  | none =>
    obtain ⟨rfl, rfl⟩ := hnil rfl
    rw [run_convert_bytes_nil (P := Tryz.prog) w 27 5 Tryz.underlying27 Tryz.underlying5 0 0 9 Tryz.underlying9]
    rfl
  | some ad =>
    by_cases hl : len = 0
    · subst hl
      rw [run_convert_bytes_string (P := Tryz.prog) w 27 9 5 _ 0 cap Tryz.underlying27 Tryz.underlying5 Tryz.underlying9]
      rw [run_bytesToString (P := Tryz.prog) w ad 0 cap [] (by simp [loadCells, loadCellsFrom])]
      rfl
    · obtain ⟨_, b, off, e, _⟩ := h 0 (by omega)
      simp only [Option.some.injEq] at e
      subst e
      refine run_convert_bytes_arg (P := Tryz.prog) w 27 5 Tryz.underlying27 Tryz.underlying5 b off len cap (bs X len) (bs_length X len) (fun i hi => ?_) 9 Tryz.underlying9
      obtain ⟨_, b', off', e', hc⟩ := h i hi
      simp only [Option.some.injEq, Addr.mk.injEq, and_true] at e'
      obtain ⟨rfl, rfl⟩ := e'
      rw [bs_getD X len i hi]
      exact hc

/-- What is read of a row that the call made. -/
def xof (xs : List Int) : Nat → Nat := fun k => (xs.getD k 0).toNat
def Okb (xs : List Int) : Prop := ∀ x ∈ xs, 0 ≤ x ∧ x < 256
theorem Okb.app {xs ys : List Int} (h : Okb xs) (g : Okb ys) : Okb (xs ++ ys) := fun x hx => by
  rcases List.mem_append.1 hx with k | k
  · exact h x k
  · exact g x k
theorem okb_bs {w : World} {ao : Option Addr} {len : Nat} {X : Nat → Nat} (h : Byt w ao len X) : Okb (bs X len) := fun x hx => by
  obtain ⟨k, hk, rfl⟩ := List.mem_map.1 hx
  have := (h k (List.mem_range.1 hk)).1
  omega
theorem bs_xof {xs : List Int} (h : Okb xs) : bs (xof xs) xs.length = xs := by
  apply List.ext_getElem
  · simp [bs_length]
  · intro i h1 h2
    have := h xs[i] (List.getElem_mem h2)
    simp [bs, xof, List.getElem?_eq_getElem h2]
    omega

theorem Row.byt {B : Nat} {w : World} {v : Value} {xs : List Int} (h : Row B w v xs) (hok : Okb xs) :
    ∃ ao cap, v = .slice ao xs.length cap ∧ (ao = none → xs.length = 0 ∧ cap = 0) ∧ xs.length ≤ cap ∧ cap ≤ maxLen ∧ Byt w ao xs.length (xof xs) := by
  have hcells : ∀ g, v.ownBlock = some g → _ := fun g hg => World.ownsRow.cells h (g := g) hg
  rcases h.2 with ⟨rfl, h0⟩ | ⟨g, cap, cur, rfl, hbg, hg, hnc, hcm, hcs, htake⟩
  · exact ⟨none, 0, by rw [h0], fun _ => ⟨h0, rfl⟩, by omega, Nat.zero_le _, fun k hk => absurd hk (by omega)⟩
  · refine ⟨some ⟨g, 0, none⟩, cap, rfl, (fun e => by cases e), hnc, hcm, fun k hk => ?_⟩
    have hx := hok xs[k] (List.getElem_mem hk)
    have e : xof xs k = xs[k].toNat := by simp [xof, List.getElem?_eq_getElem hk]
    refine ⟨by rw [e]; omega, g, 0, rfl, ?_⟩
    have := hcells g rfl k (.int .u8 xs[k]) (by simp [List.getElem?_eq_getElem hk])
    rw [Addr.add_lit] at this
    rw [this, e]
    congr 2
    omega

theorem Row.nil (B : Nat) (w : World) : Row B w (.slice none 0 0) [] := World.ownsRow_nil w B 5 1
theorem Row.alloc {B : Nat} {w : World} {v : Value} {xs : List Int} (h : Row B w v xs) (o : Obj) : Row B (w.alloc o) v xs := World.ownsRow.alloc h o
/-- One byte that was just laid for an append. -/
theorem byt_one (w : World) (x : Nat) (hx : x < 256) : Byt (w.alloc (.cells #[.int .u8 (x : Int)] 5)) (some ⟨w.heap.size, 0, none⟩) 1 (fun _ => x) := fun k hk => by
  obtain rfl : k = 0 := by omega
  exact ⟨hx, w.heap.size, 0, rfl, by simp⟩
end Go.Proofs.YtligofmcmjblpaaGreat

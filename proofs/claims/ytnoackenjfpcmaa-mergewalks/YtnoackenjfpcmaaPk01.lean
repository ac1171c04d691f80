import Derived.Test.YtnoackenjfpcmaaRows
import Derived.WalkKit
import Derived.WalkSpells
import Derived.WalkLawsBesides
import Derived.ScopeJumps
import Derived.Deep.Draws
import Derived.Deep.LoopGhost
import Derived.Deep.CutBlock
import Derived.BigQuiet
import Derived.RegionTactic
import Derived.Laws.OwnMore
import Derived.Laws.BytesArg
import Derived.Laws.Shifts
import Derived.Laws.BitsAllLaws
import Derived.Laws.Bits128
import Derived.Handy
/- Rows of bytes: those that came in and are read, and those that the call itself made and appends to. -/
namespace Go.Proofs.Ytnoackenjfpcmaa
open Go.RowKit

/-- The first n bytes that X tells. -/
def bs (X : Nat → Nat) (n : Nat) : List Int := (List.range n).map fun k => (X k : Int)
theorem bs_length (X : Nat → Nat) (n : Nat) : (bs X n).length = n := by simp [bs]
theorem bs_getD (X : Nat → Nat) (n i : Nat) (h : i < n) : (bs X n).getD i 0 = (X i : Int) := by simp [bs, h]
theorem bs_succ (X : Nat → Nat) (n : Nat) : bs X (n + 1) = bs X n ++ [(X n : Int)] := by simp [bs, List.range_succ]

/-- What is read of a slice of bytes: its cells. -/
def Byt (w : World) (ao : Option Addr) (len : Nat) (X : Nat → Nat) : Prop :=
  ∀ k, k < len → X k < 256 ∧ ∃ b off, ao = some ⟨b, off, none⟩ ∧ w.cell? ⟨b, off + k, none⟩ = some (.int .u8 (X k : Int))

/-- A row of bytes that the call itself made. -/
def Row (B : Nat) (w : World) (v : Value) (xs : List Int) : Prop := w.ownsRow B 5 1 v xs.length (xs.map (Value.int .u8))

theorem _root_.Go.Proofs.Try.info5 : (Try.prog.info? 5).map (fun i => (i.zero, i.size, i.bytes)) = some (some (.int .u8 0), 1, 1) := by kernel_rfl

/-- Where a value lies behind an append: where it lay, or in a new block. -/
def Moved (w : World) (v v' : Value) : Prop := v'.ownBlock = v.ownBlock ∨ ∃ g, v'.ownBlock = some g ∧ w.heap.size ≤ g

theorem run_app (B : Nat) (w : World) (ty : TypeId) (v : Value) (xs : List Int) (hrow : Row B w v xs) (ao : Option Addr) (m c : Nat) (X : Nat → Nat) (hnil : ao = none → m = 0 ∧ c = 0) (hby : Byt w ao m X)
    (hb : xs.length + m ≤ 140737488355328) (hbase : B ≤ w.heap.size) :
    ∃ v' w', (Builtin.append_ #[33, 33] ty #[v, .slice ao m c]).run Try.prog w = .ok v' w' ∧ Row B w' v' (xs ++ bs X m) ∧ w.grownBy w' v.ownBlock ∧ Moved w v v' := by
  obtain ⟨i, hi, hz, hsize, hbytes⟩ := info_parts Try.info5
  cases ao with
  | none =>
    obtain ⟨rfl, rfl⟩ := hnil rfl
    refine ⟨v, w, run_append_owned_none (P := Try.prog) (w := w) B 33 ty 5 i 1 Try.underlying33 hi v _ _ hrow, ?_, ⟨rfl, rfl, rfl, Nat.le_refl _, fun _ _ _ => rfl⟩, .inl rfl⟩
    simpa [bs] using hrow
  | some ad =>
    have hl : ((bs X m).map (Value.int .u8)).length = m * 1 := by simp [bs_length]
    have hnews : ∀ j u, ((bs X m).map (Value.int .u8))[j]? = some u → w.cell? (ad.add j) = some u := by
      intro j u hu
      have hj : j < m := by
        rcases Nat.lt_or_ge j m with h | h
        · exact h
        · rw [List.getElem?_eq_none (by simpa [bs_length] using h)] at hu; cases hu
      obtain ⟨_, b, off, e, hc⟩ := hby j hj
      simp only [Option.some.injEq] at e
      subst e
      rw [Addr.add_lit, hc]
      simp [bs, hj] at hu
      rw [← hu]
    have h1 : ∀ u ∈ (bs X m).map (Value.int .u8), u.oneCell' = true := fun u hu => by
      obtain ⟨_, _, rfl⟩ := List.mem_map.1 hu
      rfl
    obtain ⟨v', w', hr, h2, h3, _⟩ := run_append_own (P := Try.prog) w B 33 ty 5 i (.int .u8 0) 1 1 Try.underlying33 hi hz hsize hbytes rfl (by decide) v xs.length _ hrow ad m c _ hl hnews h1 (by simp only [maxLen]; omega) (by omega) hbase
    refine ⟨v', w', hr, ?_, h3, ?_⟩
    · unfold Row
      rw [List.map_append, List.length_append, bs_length]
      exact h2
    · rcases hrow.2 with ⟨rfl, h0⟩ | ⟨g, cap, cur, rfl, hbg, hg, hnc, hcm, hcs, htake⟩
      · by_cases hm : m = 0
        · subst hm
          have : (Builtin.append_ #[33, 33] ty #[.slice none 0 0, .slice (some ad) 0 c]).run Try.prog w = .ok (.slice none 0 0) w := by
            simp [Builtin.append_, run_underlying Try.underlying33, sizeOf, typeInfo, hi, Builtin.lenOf, Builtin.firstCells, loadCells, loadCellsFrom]
          rw [this] at hr
          simp at hr
          rw [← hr.1]
          exact .inl rfl
        · have hr' := run_append_nil (P := Try.prog) w 33 ty 5 i (.int .u8 0) Try.underlying33 hi hz ad m c _ (by rw [hsize]; exact hl) hnews (by omega) (by omega) (by rw [hbytes]; omega)
          rw [hr'] at hr
          simp at hr
          rw [← hr.1]
          exact .inr ⟨w.heap.size, rfl, Nat.le_refl _⟩
      · by_cases hroom : xs.length + m ≤ cap
        · have hr' := run_append_room (P := Try.prog) w 33 ty 5 i Try.underlying33 hi g xs.length cap cur hg ad m c _ (by rw [hsize]; exact hl) hnews h1 hroom (by rw [hsize, hl, hcs]; omega)
          rw [hr'] at hr
          simp at hr
          rw [← hr.1]
          exact .inl rfl
        · have holds : ∀ j u, (xs.map (Value.int .u8))[j]? = some u → w.cell? ((⟨g, 0, none⟩ : Addr).add j) = some u := World.ownsRow.cells hrow (g := g) rfl
          have hr' := run_append_grow (P := Try.prog) w 33 ty 5 i (.int .u8 0) Try.underlying33 hi hz ⟨g, 0, none⟩ xs.length cap _ (by rw [hsize]; simp) holds ad m c _ (by rw [hsize]; exact hl) hnews (by omega) (by omega) (growslice_fits (by omega) (by rw [hbytes]; omega))
          rw [hr'] at hr
          simp at hr
          rw [← hr.1]
          exact .inr ⟨w.heap.size, rfl, Nat.le_refl _⟩

theorem wp_app {w : World} {o : Oper} {a : Act} {K : Act → World → Prop} {Q : Exit → Act → World → Prop} (s x : Operand)
    (ho : o.op = .call { callee := .builtin .append, args := #[s, x], argTypes := #[33, 33] }) (B : Nat) (v : Value) (xs : List Int) (hs : a.eval s = v) (hrow : Row B w v xs)
    (ao : Option Addr) (m c : Nat) (X : Nat → Nat) (hx : a.eval x = .slice ao m c) (hnil : ao = none → m = 0 ∧ c = 0) (hby : Byt w ao m X) (hb : xs.length + m ≤ 140737488355328) (hbase : B ≤ w.heap.size)
    (h : ∀ v' w', Row B w' v' (xs ++ bs X m) → w.grownBy w' v.ownBlock → Moved w v v' → K (a.put o.dst v') w') : o.wp Try.prog a w K Q := by
  obtain ⟨v', w', hr, h2, h3, h4⟩ := run_app B w o.type v xs hrow ao m c X hnil hby hb hbase
  unfold Oper.wp execOp
  simp only [ho, resolve, invoke, builtin, Sem.run_bind, Sem.run_pure, Result.andThen_ok, List.map_toArray, List.map_cons, List.map_nil, hs, hx, hr]
  exact h v' w' h2 h3 h4

theorem wpList_app {w : World} {ops : Array Oper} {rest : List Oper} {o : Oper} {a : Act} {Q : Exit → Act → World → Prop} (hgd : o.guard = none) (s x : Operand)
    (ho : o.op = .call { callee := .builtin .append, args := #[s, x], argTypes := #[33, 33] }) (B : Nat) (v : Value) (xs : List Int) (hs : a.eval s = v) (hrow : Row B w v xs)
    (ao : Option Addr) (m c : Nat) (X : Nat → Nat) (hx : a.eval x = .slice ao m c) (hnil : ao = none → m = 0 ∧ c = 0) (hby : Byt w ao m X) (hb : xs.length + m ≤ 140737488355328) (hbase : B ≤ w.heap.size)
    (h : ∀ v' w', Row B w' v' (xs ++ bs X m) → w.grownBy w' v.ownBlock → Moved w v v' → wpList Try.prog ops Q rest (a.put o.dst v') w') : wpList Try.prog ops Q (o :: rest) a w :=
  wpList_plain hgd fun _ hK => wp_app s x ho B v xs hs hrow ao m c X hx hnil hby hb hbase fun v' w' h2 h3 h4 => hK _ _ (h v' w' h2 h3 h4)

theorem grown_below {B : Nat} {w w' : World} {v : Value} {xs : List Int} (hrow : Row B w v xs) (hg : w.grownBy w' v.ownBlock) (hB : B ≤ w.heap.size) : Below B w w' :=
  Below.grown (Below.refl B w) hg hB (fun k hk => (World.ownsRow.lt hrow k hk).1)

theorem Byt.later {w w' : World} {ao : Option Addr} {len : Nat} {X : Nat → Nat} (h : Byt w ao len X) (hb : Below w.heap.size w w') : Byt w' ao len X := fun k hk => by
  obtain ⟨h1, b, off, e, hc⟩ := h k hk
  exact ⟨h1, b, off, e, cell_later hb hc⟩

/-- The string of a row of bytes that is read. -/
theorem run_str {w : World} {ao : Option Addr} {len cap : Nat} {X : Nat → Nat} (h : Byt w ao len X) (hnil : ao = none → len = 0 ∧ cap = 0) :
    (convert 33 9 (.slice ao len cap)).run Try.prog w = .ok (.string (strOfNums (bs X len))) w := by
  cases ao with
  | none =>
    obtain ⟨rfl, rfl⟩ := hnil rfl
    rw [run_convert_bytes_nil (P := Try.prog) w 33 5 Try.underlying33 Try.underlying5 0 0 9 Try.underlying9]
    rfl
  | some ad =>
    by_cases hl : len = 0
    · subst hl
      rw [run_convert_bytes_string (P := Try.prog) w 33 9 5 _ 0 cap Try.underlying33 Try.underlying5 Try.underlying9]
      rw [run_bytesToString (P := Try.prog) w ad 0 cap [] (by simp [loadCells, loadCellsFrom])]
      rfl
    · obtain ⟨_, b, off, e, _⟩ := h 0 (by omega)
      simp only [Option.some.injEq] at e
      subst e
      refine run_convert_bytes_arg (P := Try.prog) w 33 5 Try.underlying33 Try.underlying5 b off len cap (bs X len) (bs_length X len) (fun i hi => ?_) 9 Try.underlying9
      obtain ⟨_, b', off', e', hc⟩ := h i hi
      simp only [Option.some.injEq, Addr.mk.injEq, and_true] at e'
      obtain ⟨rfl, rfl⟩ := e'
      rw [bs_getD X len i hi]
      exact hc

/-- What is read of a row that the call made. -/
def xof (xs : List Int) : Nat → Nat := fun k => (xs.getD k 0).toNat
def Okb (xs : List Int) : Prop := ∀ x ∈ xs, 0 ≤ x ∧ x < 256
theorem Okb.app {xs ys : List Int} (h : Okb xs) (g : Okb ys) : Okb (xs ++ ys) := fun x hx => by
  rcases List.mem_append.1 hx with k | k
  · exact h x k
  · exact g x k
theorem okb_bs {w : World} {ao : Option Addr} {len : Nat} {X : Nat → Nat} (h : Byt w ao len X) : Okb (bs X len) := fun x hx => by
  obtain ⟨k, hk, rfl⟩ := List.mem_map.1 hx
  have := (h k (List.mem_range.1 hk)).1
  omega
theorem bs_xof {xs : List Int} (h : Okb xs) : bs (xof xs) xs.length = xs := by
  apply List.ext_getElem
  · simp [bs_length]
  · intro i h1 h2
    have := h xs[i] (List.getElem_mem h2)
    simp [bs, xof, List.getElem?_eq_getElem h2]
    omega

theorem Row.byt {B : Nat} {w : World} {v : Value} {xs : List Int} (h : Row B w v xs) (hok : Okb xs) :
    ∃ ao cap, v = .slice ao xs.length cap ∧ (ao = none → xs.length = 0 ∧ cap = 0) ∧ xs.length ≤ cap ∧ cap ≤ maxLen ∧ Byt w ao xs.length (xof xs) := by
  have hcells : ∀ g, v.ownBlock = some g → _ := fun g hg => World.ownsRow.cells h (g := g) hg
  rcases h.2 with ⟨rfl, h0⟩ | ⟨g, cap, cur, rfl, hbg, hg, hnc, hcm, hcs, htake⟩
  · exact ⟨none, 0, by rw [h0], fun _ => ⟨h0, rfl⟩, by omega, Nat.zero_le _, fun k hk => absurd hk (by omega)⟩
  · refine ⟨some ⟨g, 0, none⟩, cap, rfl, (fun e => by cases e), hnc, hcm, fun k hk => ?_⟩
    have hx := hok xs[k] (List.getElem_mem hk)
    have e : xof xs k = xs[k].toNat := by simp [xof, List.getElem?_eq_getElem hk]
    refine ⟨by rw [e]; omega, g, 0, rfl, ?_⟩
    have := hcells g rfl k (.int .u8 xs[k]) (by simp [List.getElem?_eq_getElem hk])
    rw [Addr.add_lit] at this
    rw [this, e]
    congr 2
    omega

theorem Row.nil (B : Nat) (w : World) : Row B w (.slice none 0 0) [] := World.ownsRow_nil w B 5 1
theorem Row.alloc {B : Nat} {w : World} {v : Value} {xs : List Int} (h : Row B w v xs) (o : Obj) : Row B (w.alloc o) v xs := World.ownsRow.alloc h o
/-- One byte that was just laid for an append. -/
theorem byt_one (w : World) (x : Nat) (hx : x < 256) : Byt (w.alloc (.cells #[.int .u8 (x : Int)] 5)) (some ⟨w.heap.size, 0, none⟩) 1 (fun _ => x) := fun k hk => by
  obtain rfl : k = 0 := by omega
  exact ⟨hx, w.heap.size, 0, rfl, by simp⟩
end Go.Proofs.Ytnoackenjfpcmaa

/- Numbers as bytes of seven bits, the lowest first: the value of such bytes, the bytes of a number, where a number ends. -/
namespace Go.Proofs.Ytnoackenjfpcmaa
open Go.RowKit

/-- The value of the first n bytes. -/
def val (X : Nat → Nat) : Nat → Nat
  | 0 => 0
  | n + 1 => val X n + X n % 128 * 128 ^ n
/-- The value of m bytes from i on. -/
def tv (X : Nat → Nat) : Nat → Nat → Nat
  | _, 0 => 0
  | i, m + 1 => X i % 128 + 128 * tv X (i + 1) m

theorem val_lt (X : Nat → Nat) : ∀ n, val X n < 128 ^ n
  | 0 => by simp [val]
  | n + 1 => by
    have h1 := val_lt X n
    have h2 : X n % 128 ≤ 127 := by omega
    have h3 : X n % 128 * 128 ^ n ≤ 127 * 128 ^ n := Nat.mul_le_mul_right _ h2
    simp only [val, Nat.pow_succ]
    omega
theorem val_tv (X : Nat → Nat) : ∀ m i, val X (i + m) = val X i + 128 ^ i * tv X i m
  | 0, i => by simp [tv]
  | m + 1, i => by
    have h := val_tv X m (i + 1)
    have e : i + (m + 1) = i + 1 + m := by omega
    rw [e, h]
    simp only [val, tv, Nat.pow_succ]
    rw [Nat.mul_add, ← Nat.mul_assoc, Nat.mul_comm (128 ^ i) (X i % 128)]
    omega
theorem val_eq_tv (X : Nat → Nat) (m : Nat) : val X m = tv X 0 m := by
  have := val_tv X m 0
  simpa [val] using this
theorem tv_le (X : Nat → Nat) (i m : Nat) : tv X i m ≤ val X (i + m) := by
  rw [val_tv]
  have : 0 < 128 ^ i := Nat.pow_pos (by decide)
  have := Nat.le_mul_of_pos_left (tv X i m) this
  omega
theorem val_congr {X Y : Nat → Nat} : ∀ {n}, (∀ k, k < n → X k % 128 = Y k % 128) → val X n = val Y n
  | 0, _ => rfl
  | n + 1, h => by simp only [val, val_congr (n := n) fun k hk => h k (by omega), h n (by omega)]
theorem val_mono (X : Nat → Nat) {m n : Nat} (h : m ≤ n) : val X m ≤ val X n := by
  obtain ⟨d, rfl⟩ := Nat.le.dest h
  rw [val_tv]
  omega

/-- It has no needless byte, and no more than 64 bits. -/
def good (X : Nat → Nat) (E : Nat) : Prop := ¬ (0 < E ∧ X E = 0) ∧ (E < 9 ∨ E = 9 ∧ X 9 ≤ 1)
theorem val_good {X : Nat → Nat} {E : Nat} (h : good X E) : val X (E + 1) < 18446744073709551616 := by
  rcases h.2 with g | ⟨rfl, g⟩
  · have h1 := val_lt X (E + 1)
    have h2 : 128 ^ (E + 1) ≤ 128 ^ 9 := Nat.pow_le_pow_right (by decide) (by omega)
    have : (128 : Nat) ^ 9 = 9223372036854775808 := by decide
    omega
  · have h1 := val_lt X 9
    simp only [val] at h1 ⊢
    have : (128 : Nat) ^ 9 = 9223372036854775808 := by decide
    rw [this] at h1 ⊢
    have : X 9 % 128 * 9223372036854775808 ≤ 1 * 9223372036854775808 := Nat.mul_le_mul_right _ (by omega)
    omega

/-- Where the number ends: the first byte below 128, or len. -/
def IsEnd (X : Nat → Nat) (len E : Nat) : Prop := E ≤ len ∧ (∀ j, j < E → 128 ≤ X j) ∧ (E < len → X E < 128)
theorem exists_end (X : Nat → Nat) : ∀ len, ∃ E, IsEnd X len E
  | 0 => ⟨0, Nat.le_refl _, fun j hj => absurd hj (by omega), fun h => absurd h (by omega)⟩
  | len + 1 => by
    obtain ⟨E, h1, h2, h3⟩ := exists_end X len
    by_cases h : E < len
    · exact ⟨E, by omega, h2, fun _ => h3 h⟩
    · by_cases g : X E < 128
      · exact ⟨E, by omega, h2, fun _ => g⟩
      · refine ⟨E + 1, by omega, fun j hj => ?_, fun hh => absurd hh (by omega)⟩
        by_cases e : j = E
        · subst e; omega
        · exact h2 j (by omega)

/-- The bytes of a number. -/
def uv (n : Nat) : List Int := if n < 128 then [(n : Int)] else ((n % 128 + 128 : Nat) : Int) :: uv (n / 128)
theorem uv_lt {n : Nat} (h : n < 128) : uv n = [(n : Int)] := by rw [uv, if_pos h]
theorem uv_ge {n : Nat} (h : 128 ≤ n) : uv n = ((n % 128 + 128 : Nat) : Int) :: uv (n / 128) := by rw [uv, if_neg (by omega)]
theorem okb_uv (n : Nat) : Okb (uv n) := by
  induction n using Nat.strongRecOn with
  | _ n ih =>
    by_cases h : n < 128
    · rw [uv_lt h]; intro x hx; simp at hx; omega
    · rw [uv_ge (by omega)]
      intro x hx
      rcases List.mem_cons.1 hx with rfl | hx
      · omega
      · exact ih (n / 128) (by omega) x hx
theorem uv_pos (n : Nat) : 0 < (uv n).length := by
  by_cases h : n < 128
  · rw [uv_lt h]; simp
  · rw [uv_ge (by omega)]; simp
/-- How many bytes a number below 128^k has. -/
theorem uv_len_le : ∀ (k n : Nat), 0 < k → n < 128 ^ k → (uv n).length ≤ k
  | 0, _, h, _ => absurd h (by decide)
  | k + 1, n, _, h => by
    by_cases g : n < 128
    · rw [uv_lt g]; simp
    · rw [uv_ge (by omega)]
      have hk : 0 < k := by
        rcases k with _ | k
        · simp at h; omega
        · omega
      have := uv_len_le k (n / 128) hk (by rw [Nat.pow_succ] at h; omega)
      simp only [List.length_cons]
      omega
theorem uv_len64 {n : Nat} (h : n < 18446744073709551616) : (uv n).length ≤ 10 :=
  uv_len_le 10 n (by decide) (Nat.lt_trans h (by decide))
end Go.Proofs.Ytnoackenjfpcmaa

/- What the program's bitwise operations make of bytes and of numbers of seven and of eight bits. -/
namespace Go.Proofs.Ytnoackenjfpcmaa
open Go.RowKit

theorem wrapU64 (n : Int) : IntKind.u64.wrap n = n % 18446744073709551616 := by simp [IntKind.wrap, IntKind.bits, IntKind.signed]
theorem wrapU64_nat (n : Nat) : IntKind.u64.wrap (n : Int) = ((n % 18446744073709551616 : Nat) : Int) := by rw [wrapU64]; omega
theorem wrapU64_of {n : Nat} (h : n < 18446744073709551616) : IntKind.u64.wrap (n : Int) = (n : Int) := by rw [wrapU64]; omega
theorem wrapU8_nat (n : Nat) : IntKind.u8.wrap (n : Int) = ((n % 256 : Nat) : Int) := by rw [IntKind.wrap_u8]; omega
theorem and127 {x : Nat} (h : x < 256) : bits .and .u8 (x : Int) 127 = ((x % 128 : Nat) : Int) := by
  have := bits_mask .u8 8 (by decide) wraps_u8 7 (by decide) (x : Int) (by omega) (by omega)
  simpa using this
theorem and127_64 {x : Nat} (h : x < 18446744073709551616) : bits .and .u64 (x : Int) 127 = ((x % 128 : Nat) : Int) := by
  have := u64_and_nat x 127 h (by decide)
  rw [show ((127 : Nat) : Int) = 127 from rfl] at this
  rw [this]
  congr 1
  exact Nat.and_two_pow_sub_one_eq_mod x 7
theorem or128 {x : Nat} (h : x < 256) : bits .or .u8 (x : Int) 128 = ((x % 128 + 128 : Nat) : Int) := by
  have := u8_or_nat x 128 h (by decide)
  rw [show ((128 : Nat) : Int) = 128 from rfl] at this
  rw [this]
  congr 1
  clear this
  have key : ∀ y, y < 256 → y ||| 128 = y % 128 + 128 := by decide +kernel
  exact key x h
/-- The low part and the high part do not meet. -/
theorem or_low {a b i : Nat} (ha : a < 2 ^ i) (hs : a + b * 2 ^ i < 18446744073709551616) : bits .or .u64 (a : Int) ((b * 2 ^ i : Nat) : Int) = ((a + b * 2 ^ i : Nat) : Int) := by
  rw [u64_or_nat a (b * 2 ^ i) (by omega) (by omega)]
  congr 1
  rw [Nat.or_comm, Nat.mul_comm b, ← Nat.two_pow_add_eq_or_of_lt ha]
  omega
theorem or_high {a b i : Nat} (ha : a < 2 ^ i) (hs : b * 2 ^ i + a < 18446744073709551616) : bits .or .u64 ((b * 2 ^ i : Nat) : Int) (a : Int) = ((b * 2 ^ i + a : Nat) : Int) := by
  rw [u64_or_nat (b * 2 ^ i) a (by omega) (by omega)]
  congr 1
  rw [Nat.mul_comm b, ← Nat.two_pow_add_eq_or_of_lt ha]
theorem pow128 (k : Nat) : 128 ^ k = 2 ^ (7 * k) := by
  rw [Nat.pow_mul]

theorem sev_step (X : Nat → Nat) (k : Nat) (hx : X k < 256) (hv : val X (k + 1) < 18446744073709551616) :
    bits .or .u64 ((val X k : Nat) : Int) (IntKind.u64.wrap (IntKind.u64.wrap (bits .and .u8 (X k : Int) 127) * 2 ^ (7 * k))) = ((val X (k + 1) : Nat) : Int) := by
  rw [and127 hx, wrapU64_of (by omega)]
  have e : ((X k % 128 : Nat) : Int) * 2 ^ (7 * k) = ((X k % 128 * 2 ^ (7 * k) : Nat) : Int) := by push_cast; rfl
  simp only [val, pow128] at hv ⊢
  rw [e, wrapU64_of (by omega), or_low (by rw [← pow128]; exact val_lt X k) hv]

/-- One step of the reckoning from the highest byte down. -/
theorem tv_step (X : Nat → Nat) (i m : Nat) (hx : X i < 256) (hv : tv X i (m + 1) < 18446744073709551616) :
    bits .or .u64 (IntKind.u64.wrap (((tv X (i + 1) m : Nat) : Int) * 128)) (IntKind.u64.wrap (bits .and .u8 (X i : Int) 127)) = ((tv X i (m + 1) : Nat) : Int) := by
  rw [and127 hx, wrapU64_of (by omega)]
  simp only [tv] at hv ⊢
  have e : ((tv X (i + 1) m : Nat) : Int) * 128 = ((tv X (i + 1) m * 2 ^ 7 : Nat) : Int) := by push_cast; rfl
  rw [e, wrapU64_of (by omega), or_high (by omega) (by omega)]
  congr 1
  omega

/-- A byte of a number that goes on. -/
theorem put_byte {n : Nat} : bits .or .u8 (IntKind.u8.wrap (n : Int)) 128 = ((n % 128 + 128 : Nat) : Int) := by
  rw [wrapU8_nat, or128 (by omega)]
  congr 1
  omega
end Go.Proofs.Ytnoackenjfpcmaa

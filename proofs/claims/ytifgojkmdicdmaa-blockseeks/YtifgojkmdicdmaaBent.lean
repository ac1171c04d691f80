/- Entries in memory; the document's own Entries; what is the same. -/
import Derived.Test.YtifgojkmdicdmaaBel
import Derived.Deep.RegionHeldLaw
namespace Go.Proofs.Ytifgojkmdicdmaa
open Go.RowKit
set_option linter.unusedVariables false
set_option linter.unusedSimpArgs false

/-- An entry. -/
structure EntV where
  key : List Int
  seq : Int
  gone : Bool
  till : Int
  val : List Int
/-- An entry in five cells. -/
def EntM (w : World) (vs : List Value) (o : EntV) : Prop :=
  ∃ ka kc va vc, vs = [.slice ka o.key.length kc, .int .i64 o.seq, .bool o.gone, .int .i64 o.till, .slice va o.val.length vc] ∧ Sl w ka o.key.length kc o.key ∧ Sl w va o.val.length vc o.val ∧ In64 o.seq ∧ In64 o.till
def entE : El EntV where
  ty := 35
  size := 5
  M := EntM
  len := fun h => by obtain ⟨ka, kc, va, vc, rfl, _⟩ := h; rfl
  one := fun h v hv => by
    obtain ⟨ka, kc, va, vc, rfl, _⟩ := h
    simp only [List.mem_cons, List.not_mem_nil, or_false] at hv
    rcases hv with rfl | rfl | rfl | rfl | rfl <;> rfl
  lt := fun h v hv b hr => by
    obtain ⟨ka, kc, va, vc, rfl, h1, h2, _⟩ := h
    simp only [List.mem_cons, List.not_mem_nil, or_false] at hv
    rcases hv with rfl | rfl | rfl | rfl | rfl
    · exact h1.lt hr
    · exact (refs_int hr).elim
    · exact (refs_bool hr).elim
    · exact (refs_int hr).elim
    · exact h2.lt hr
  keep := fun h hk => by
    obtain ⟨ka, kc, va, vc, rfl, h1, h2, h3⟩ := h
    exact ⟨ka, kc, va, vc, rfl, h1.keep fun b hr => hk _ (by simp) b hr, h2.keep fun b hr => hk _ (by simp) b hr, h3⟩
theorem entE_info : (Try.prog.info? entE.ty).map (fun i => (i.zero, i.size, i.bytes)) = some (some (.agg #[.slice none 0 0, .int .i64 0, .bool false, .int .i64 0, .slice none 0 0]), entE.size, 72) := by kernel_rfl
/-- The cells of an entry of a row. -/
theorem RS.ent {w : World} {ao : Option Addr} {len cap : Nat} {os : List EntV} (h : RS entE w ao len cap os) {i : Nat} {o : EntV} (hx : os[i]? = some o) :
    ∃ b off ka kc va vc, ao = some ⟨b, off, none⟩ ∧ w.cell? ⟨b, off + i * 5, none⟩ = some (.slice ka o.key.length kc) ∧ w.cell? ⟨b, off + i * 5 + 1, none⟩ = some (.int .i64 o.seq) ∧ w.cell? ⟨b, off + i * 5 + 2, none⟩ = some (.bool o.gone) ∧ w.cell? ⟨b, off + i * 5 + 3, none⟩ = some (.int .i64 o.till) ∧ w.cell? ⟨b, off + i * 5 + 4, none⟩ = some (.slice va o.val.length vc) ∧
      Sl w ka o.key.length kc o.key ∧ Sl w va o.val.length vc o.val ∧ In64 o.seq ∧ In64 o.till := by
  obtain ⟨b, off, vs, e, ⟨ka, kc, va, vc, rfl, h1, h2, h3, h4⟩, hc⟩ := RS.at h (by decide) hx
  refine ⟨b, off, ka, kc, va, vc, e, ?_, ?_, ?_, ?_, ?_, h1, h2, h3, h4⟩
  · exact hc 0 _ rfl
  · exact hc 1 _ rfl
  · exact hc 2 _ rfl
  · exact hc 3 _ rfl
  · exact hc 4 _ rfl
/-- The entries of changes. -/
def ents : Int → List OpV → List EntV
  | _, [] => []
  | s, o :: r => ⟨o.key, s, o.gone, o.till, o.val⟩ :: ents (s + 1) r
theorem ents_len : ∀ (s : Int) (os : List OpV), (ents s os).length = os.length
  | _, [] => rfl
  | s, o :: r => by rw [ents, List.length_cons, List.length_cons, ents_len]
theorem ents_app : ∀ (s : Int) (xs ys : List OpV), ents s (xs ++ ys) = ents s xs ++ ents (s + xs.length) ys
  | s, [], ys => by simp [ents]
  | s, o :: r, ys => by
    rw [List.cons_append, ents, ents_app (s + 1) r ys, ents, List.cons_append, List.length_cons]
    congr 3
    omega
theorem ents_take {s : Int} {os : List OpV} {k : Nat} {o : OpV} (h : os[k]? = some o) : ents s (os.take (k + 1)) = ents s (os.take k) ++ [⟨o.key, s + (k : Int), o.gone, o.till, o.val⟩] := by
  obtain ⟨hk, rfl⟩ := List.getElem?_eq_some_iff.1 h
  rw [List.take_add_one, List.getElem?_eq_getElem hk, ents_app, List.length_take, show min k os.length = k by omega]
  rfl
def entV (s : Int) (os : List OpV) : List EntV := if mayB s os = 0 then ents s os else []

end Go.Proofs.Ytifgojkmdicdmaa

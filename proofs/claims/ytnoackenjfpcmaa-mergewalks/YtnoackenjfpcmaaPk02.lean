import Derived.Test.YtnoackenjfpcmaaPk01
/- What sevens and goodUvarint answer. -/
namespace Go.Proofs.Ytnoackenjfpcmaa
open Go.RowKit

instance (X : Nat → Nat) (E : Nat) : Decidable (good X E) := by unfold good; infer_instance
theorem good_iff {X : Nat → Nat} {E : Nat} {b : Bool} (h : b = true ↔ good X E) : b = decide (good X E) := by
  cases b with
  | true => exact (decide_eq_true (h.1 rfl)).symm
  | false => exact (decide_eq_false fun g => by cases h.2 g).symm

end Go.Proofs.Ytnoackenjfpcmaa

/- What Take answers. -/
namespace Go.Proofs.Ytnoackenjfpcmaa
open Go.RowKit

/-- What Take answers, where the number ends at E. -/
def takeV (X : Nat → Nat) (len E : Nat) : Value :=
  if E < len then (if good X E then .tuple #[.int .u64 (val X (E + 1) : Nat), .int .i64 ((E : Int) + 1), .int .i64 0] else .tuple #[.int .u64 0, .int .i64 0, .int .i64 3]) else .tuple #[.int .u64 0, .int .i64 0, .int .i64 5]

end Go.Proofs.Ytnoackenjfpcmaa

/- What Len, appendSevens, fresh and Put make, and the document's own Put and Len. -/
namespace Go.Proofs.Ytnoackenjfpcmaa
open Go.RowKit

theorem grow_trans {w w1 w2 : World} {v v' : Value} (h : w.grownBy w1 v.ownBlock) (hm : Moved w v v') (h2 : w1.grownBy w2 v'.ownBlock) : w.grownBy w2 v.ownBlock := by
  refine ⟨h2.os.trans h.os, h2.tape.trans h.tape, h2.output.trans h.output, Nat.le_trans h.size h2.size, fun k hk hne => ?_⟩
  refine (h2.block k (Nat.lt_of_lt_of_le hk h.size) ?_).trans (h.block k hk hne)
  rcases hm with e | ⟨g, e, hg⟩
  · rw [e]; exact hne
  · rw [e]; intro e'; cases e'; omega
theorem Moved.refl (w : World) (v : Value) : Moved w v v := .inl rfl
theorem Moved.trans {w w1 : World} {v v' v'' : Value} (h : Moved w v v') (h2 : Moved w1 v' v'') (hs : w.heap.size ≤ w1.heap.size) : Moved w v v'' := by
  rcases h2 with e | ⟨g, e, hg⟩
  · rcases h with e1 | ⟨g, e1, hg⟩
    · exact .inl (e.trans e1)
    · exact .inr ⟨g, e.trans e1, hg⟩
  · exact .inr ⟨g, e, by omega⟩
theorem grow_refl (w : World) (r : Option Nat) : w.grownBy w r := ⟨rfl, rfl, rfl, Nat.le_refl _, fun _ _ _ => rfl⟩

theorem app_step {w wr w1 : World} {o : Obj} {v u v1 : Value} (hgr : w.grownBy wr v.ownBlock) (hmv : Moved w v u) (hg1 : (wr.alloc o).grownBy w1 u.ownBlock) (hm1 : Moved (wr.alloc o) u v1) :
    w.grownBy w1 v.ownBlock ∧ Moved w v v1 := by
  have h1 : wr.grownBy w1 u.ownBlock := grow_trans (World.grownBy_alloc wr o _) (Moved.refl _ _) hg1
  refine ⟨grow_trans hgr hmv h1, hmv.trans hm1 ?_⟩
  have := hgr.size
  simp
  omega

theorem rput_byte {m : Nat} (h : m < 18446744073709551616) : bits .or .u8 (IntKind.u8.wrap (bits .and .u64 (m : Int) 127)) 128 = ((m % 128 + 128 : Nat) : Int) := by
  rw [and127_64 h, wrapU8_nat, or128 (by omega)]
  congr 1
  omega

end Go.Proofs.Ytnoackenjfpcmaa

/- The document's own Batch: a batch as bytes. -/
import Derived.Test.YtifgojkmdicdmaaBel
import Derived.Test.YtifgojkmdicdmaaRrd
import Derived.Test.YtifgojkmdicdmaaPby
import Derived.Deep.RegionHeldLaw
namespace Go.Proofs.Ytifgojkmdicdmaa
open Go.RowKit
set_option linter.unusedVariables false
set_option linter.unusedSimpArgs false

theorem undrew {w w2 : World} {r : Option Nat} (h : w.drew.grownBy w2 r) : w.grownBy w2 r := ⟨h.os, h.tape, h.output, h.size, h.block⟩
theorem Row.slice {B : Nat} {w : World} {v : Value} {xs : List Int} (h : Row B w v xs) : ∃ ao c, v = .slice ao xs.length c := by
  rcases h.2 with ⟨rfl, h0⟩ | ⟨g, cap, cur, rfl, _⟩
  · exact ⟨none, 0, by rw [h0]⟩
  · exact ⟨_, _, rfl⟩
theorem Row.drew {B : Nat} {w : World} {v : Value} {xs : List Int} (h : Row B w v xs) : Row B w.drew v xs := h
theorem wrap64u {n : Nat} (h : n < 18446744073709551616) : IntKind.u64.wrap (n : Int) = (n : Int) := by rw [IntKind.wrap_u64]; omega
/-- PutBytes of what was there at the beginning. -/
theorem rpb_l {W w : World} {B : Nat} {v : Value} {xs : List Int} {so : Option Addr} {ls cs : Nat} {rs : List Int} (hrow : Row B w v xs) (hWB : W.heap.size ≤ B) (hW : Below W.heap.size W w) (hB : B ≤ w.heap.size) (hs : Sl W so ls cs rs) (hl : xs.length + ls ≤ 140737488351232) :
    Calls Try.prog 28 #[v, .slice so ls cs] w fun e w' => ∃ v', e = .returned v' ∧ Row B w' v' (xs ++ lb rs) ∧ w.grownBy w' v.ownBlock ∧ Moved w v v' := by
  refine (rpby_any B v xs so ls cs (xof rs) w W hrow hB hWB hW hs.2.2.2.2.2 hs.2.2.1 hl).mono ?_
  rintro e w' ⟨v', rfl, h1, h2, h3⟩
  rw [← hs.1, bs_xof hs.2.1, List.append_assoc] at h1
  exact ⟨v', rfl, h1, h2, h3⟩
/-- One byte behind a row of one's own, as a step of a region that draws. -/
theorem step_app1 {ops : Array Oper} {w : World} {o : Oper} {a : Act} {K : Act → World → Prop} {Q : Exit → Act → World → Prop} {E : Prop} {B N : Nat} {v : Value} {xs : List Int} {c : Int} (hgd : o.guard = none) (s x : Operand)
    (ho : o.op = .call { callee := .builtin .append, args := #[s, x], argTypes := #[25, 25] }) (hs : a.eval s = v) (hrow : Row B w v xs) (hx : a.eval x = .slice (some ⟨N, 0, none⟩) 1 1) (hc : w.cell? ⟨N, 0, none⟩ = some (.int .u8 c)) (hc8 : 0 ≤ c ∧ c < 256) (hb : xs.length + 1 ≤ 140737488355328) (hB : B ≤ w.heap.size)
    (h : ∀ v' w', Row B w' v' (xs ++ [c]) → w.grownBy w' v.ownBlock → Moved w v v' → K (a.put o.dst v') w') :
    if Region.wanted o (yielded ops a.tmps) = true then Oper.wp Try.prog o a w K Q else E := by
  have hw : Region.wanted o (yielded ops a.tmps) = true := by simp [Region.wanted, hgd]
  rw [if_pos hw]
  obtain ⟨n, rfl⟩ := Int.eq_ofNat_of_zero_le hc8.1
  obtain ⟨v', w', hr, h2, h3, h4⟩ := run_app B w o.type v xs hrow (some ⟨N, 0, none⟩) 1 1 (fun _ => n) (fun e => by cases e) (fun k hk => by
    obtain rfl : k = 0 := by omega
    exact ⟨by show n < 256; omega, N, 0, rfl, hc⟩) hb hB
  unfold Oper.wp execOp
  simp only [ho, resolve, invoke, builtin, Sem.run_bind, Sem.run_pure, Result.andThen_ok, List.map_toArray, List.map_cons, List.map_nil, hs, hx, hr]
  exact h _ _ h2 h3 h4
/-- A row of one's own, beside a block that is read. -/
structure Mid (W : World) (ob : Nat) (C : Array Value) (t : TypeId) (wx : World) (v : Value) (ys : List Int) : Prop where
  row : Row W.heap.size wx v ys
  bel : Below W.heap.size W wx
  blk : wx.heap[ob]? = some (.cells C t (0, 0))
  ne : v.ownBlock ≠ some ob
theorem Mid.step {W : World} {ob : Nat} {C : Array Value} {t : TypeId} {wx wy : World} {v v' : Value} {ys zs : List Int} (h : Mid W ob C t wx v ys) (hg : wx.grownBy wy v.ownBlock) (hm : Moved wx v v') (hr : Row W.heap.size wy v' zs) : Mid W ob C t wy v' zs := by
  have hlt := (Array.getElem?_eq_some_iff.1 h.blk).1
  refine ⟨hr, h.bel.trans (grown_below h.row hg h.bel.size), (hg.block ob hlt (Ne.symm h.ne)).trans h.blk, ?_⟩
  rcases hm with q | ⟨g, q1, q2⟩
  · rw [q]; exact h.ne
  · rw [q1]
    intro e
    simp only [Option.some.injEq] at e
    omega
theorem Mid.alloc {W : World} {ob : Nat} {C : Array Value} {t : TypeId} {wx : World} {v : Value} {ys : List Int} (h : Mid W ob C t wx v ys) (o : Obj) : Mid W ob C t (wx.alloc o) v ys := by
  have hb : Below wx.heap.size wx (wx.alloc o) := (Below.refl _ wx).alloc (Nat.le_refl _) _
  exact ⟨h.row.later hb, h.bel.trans (hb.mono h.bel.size), (hb.block ob (Array.getElem?_eq_some_iff.1 h.blk).1).trans h.blk, h.ne⟩
theorem Mid.drew {W : World} {ob : Nat} {C : Array Value} {t : TypeId} {wx : World} {v : Value} {ys : List Int} (h : Mid W ob C t wx v ys) : Mid W ob C t wx.drew v ys := ⟨h.row, h.bel.drew, h.blk, h.ne⟩
theorem Mid.cells {W : World} {ob : Nat} {c0 c1 c2 c3 : Value} {t : TypeId} {wx : World} {v : Value} {ys : List Int} (h : Mid W ob #[c0, c1, c2, c3] t wx v ys) : wx.cell? ⟨ob, 0, none⟩ = some c0 ∧ wx.cell? ⟨ob, 1, none⟩ = some c1 ∧ wx.cell? ⟨ob, 2, none⟩ = some c2 ∧ wx.cell? ⟨ob, 3, none⟩ = some c3 :=
  ⟨by rw [cell_of h.blk]; rfl, by rw [cell_of h.blk]; rfl, by rw [cell_of h.blk]; rfl, by rw [cell_of h.blk]; rfl⟩
def enV (s : Int) (os : List OpV) : List Int := if mayB s os = 0 then enB s os else []
theorem enOs_take {os : List OpV} {k : Nat} {o : OpV} (h : os[k]? = some o) : enOs (os.take (k + 1)) = enOs (os.take k) ++ enO o := by
  obtain ⟨hk, rfl⟩ := List.getElem?_eq_some_iff.1 h
  rw [List.take_add_one, List.getElem?_eq_getElem hk, enOs_app]
  show _ ++ (enO os[k] ++ []) = _
  rw [List.append_nil]

end Go.Proofs.Ytifgojkmdicdmaa

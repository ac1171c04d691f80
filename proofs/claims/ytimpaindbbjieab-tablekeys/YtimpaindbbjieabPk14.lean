import Derived.Deep.RegionHeldLaw
import Derived.Test.YtimpaindbbjieabPk05
import Derived.Test.YtimpaindbbjieabPk06
import Derived.Test.YtimpaindbbjieabPk12
import Derived.Test.YtimpaindbbjieabPk13
/- What PutBytes makes, and the document's own. -/
namespace Go.Proofs.Ytimpaindbbjieab
open Go.RowKit
set_option linter.unusedVariables false

theorem pby_any (ao so : Option Addr) (len cap ls cs : Nat) (X S : Nat → Nat) (w : World) (hb : Byt w ao len X) (hnil : ao = none → len = 0 ∧ cap = 0) (hsb : Byt w so ls S) (hsnil : so = none → ls = 0 ∧ cs = 0) (hl : len + ls ≤ 140737488351232) :
    Calls Try.prog 65 #[.slice ao len cap, .slice so ls cs] w fun e w' => ∃ v', e = .returned v' ∧ Row w.heap.size w' v' (bs X len ++ uv ls ++ bs S ls) ∧ Below w.heap.size w w' := by
  have hf := fresh_any ao len cap (10 + ls) X w hb hnil (by omega) (by omega)
  have hu := uv_len64 (n := ls) (by omega)
  have hs : ∀ v w1, Row w.heap.size w1 v (bs X len) → Below w.heap.size w w1 → Calls Try.prog 83 #[v, .int .u64 (ls : Int)] w1 fun e w' => ∃ v', e = .returned v' ∧ Row w.heap.size w' v' (bs X len ++ uv ls) ∧ Below w.heap.size w w' := fun v w1 h1 h2 =>
    (sevs_any w.heap.size v (bs X len) ls w1 h1 h2.size (by rw [bs_length]; omega) (by omega)).mono fun e w' ⟨v', he, hr, hg, _⟩ => ⟨v', he, hr, h2.trans (grown_below h1 hg h2.size)⟩
  have HS : Hid (Byt w so ls S ∧ (so = none → ls = 0 ∧ cs = 0) ∧ (bs X len ++ uv ls).length + ls ≤ 140737488355328) := ⟨hsb, hsnil, by rw [List.length_append, bs_length]; omega⟩
  have hw1 : ls ≤ 2 ^ 63 - 11 := by omega
  have e10 : ((10 + ls : Nat) : Int) = 10 + (ls : Int) := by omega
  rw [e10] at hf
  clear hb hnil hsb hsnil hl hu e10
  go_enter Try.func65, Try.ntmps65
  go_wp2_with (first | (go_at_call 68; refine hf.mono ?_; rintro e w1 ⟨v1, rfl, hr1, hb1⟩) | (go_at_call 83; refine (hs _ _ hr1 hb1).mono ?_; rintro e w2 ⟨v2, rfl, hr2, hb2⟩) | (at_builtin; refine wpList_app rfl (.tmp 15) (.tmp 16) rfl w.heap.size v2 _ rfl hr2 so ls cs S rfl HS.out.2.1 (HS.out.1.later hb2) HS.out.2.2 hb2.size ?_; intro v3 w3 hr3 hg3 hm3))
  exact bodyPost_ret (v := v3) (by simp [results, Try.results65, go_sem]) rfl ⟨v3, rfl, hr3, hb2.trans (grown_below hr2 hg3 hb2.size)⟩

end Go.Proofs.Ytimpaindbbjieab

/- The document's own Batch: a batch as bytes. -/
namespace Go.Proofs.Ytimpaindbbjieab
open Go.RowKit
set_option linter.unusedVariables false
set_option linter.unusedSimpArgs false

theorem undrew {w w2 : World} {r : Option Nat} (h : w.drew.grownBy w2 r) : w.grownBy w2 r := ⟨h.os, h.tape, h.output, h.size, h.block⟩
theorem Row.slice {B : Nat} {w : World} {v : Value} {xs : List Int} (h : Row B w v xs) : ∃ ao c, v = .slice ao xs.length c := by
  rcases h.2 with ⟨rfl, h0⟩ | ⟨g, cap, cur, rfl, _⟩
  · exact ⟨none, 0, by rw [h0]⟩
  · exact ⟨_, _, rfl⟩
theorem Row.drew {B : Nat} {w : World} {v : Value} {xs : List Int} (h : Row B w v xs) : Row B w.drew v xs := h
theorem wrap64u {n : Nat} (h : n < 18446744073709551616) : IntKind.u64.wrap (n : Int) = (n : Int) := by rw [IntKind.wrap_u64]; omega
/-- One byte behind a row of one's own, as a step of a region that draws. -/
theorem step_app1 {ops : Array Oper} {w : World} {o : Oper} {a : Act} {K : Act → World → Prop} {Q : Exit → Act → World → Prop} {E : Prop} {B N : Nat} {v : Value} {xs : List Int} {c : Int} (hgd : o.guard = none) (s x : Operand)
    (ho : o.op = .call { callee := .builtin .append, args := #[s, x], argTypes := #[24, 24] }) (hs : a.eval s = v) (hrow : Row B w v xs) (hx : a.eval x = .slice (some ⟨N, 0, none⟩) 1 1) (hc : w.cell? ⟨N, 0, none⟩ = some (.int .u8 c)) (hc8 : 0 ≤ c ∧ c < 256) (hb : xs.length + 1 ≤ 140737488355328) (hB : B ≤ w.heap.size)
    (h : ∀ v' w', Row B w' v' (xs ++ [c]) → w.grownBy w' v.ownBlock → Moved w v v' → K (a.put o.dst v') w') :
    if Region.wanted o (yielded ops a.tmps) = true then Oper.wp Try.prog o a w K Q else E := by
  have hw : Region.wanted o (yielded ops a.tmps) = true := by simp [Region.wanted, hgd]
  rw [if_pos hw]
  obtain ⟨n, rfl⟩ := Int.eq_ofNat_of_zero_le hc8.1
  obtain ⟨v', w', hr, h2, h3, h4⟩ := run_app B w o.type v xs hrow (some ⟨N, 0, none⟩) 1 1 (fun _ => n) (fun e => by cases e) (fun k hk => by
    obtain rfl : k = 0 := by omega
    exact ⟨by show n < 256; omega, N, 0, rfl, hc⟩) hb hB
  unfold Oper.wp execOp
  simp only [ho, resolve, invoke, builtin, Sem.run_bind, Sem.run_pure, Result.andThen_ok, List.map_toArray, List.map_cons, List.map_nil, hs, hx, hr]
  exact h _ _ h2 h3 h4
/-- A row of one's own, beside a block that is read. -/
structure Mid (W : World) (ob : Nat) (C : Array Value) (t : TypeId) (wx : World) (v : Value) (ys : List Int) : Prop where
  row : Row W.heap.size wx v ys
  bel : Below W.heap.size W wx
  blk : wx.heap[ob]? = some (.cells C t (0, 0))
  ne : v.ownBlock ≠ some ob
theorem Mid.step {W : World} {ob : Nat} {C : Array Value} {t : TypeId} {wx wy : World} {v v' : Value} {ys zs : List Int} (h : Mid W ob C t wx v ys) (hg : wx.grownBy wy v.ownBlock) (hm : Moved wx v v') (hr : Row W.heap.size wy v' zs) : Mid W ob C t wy v' zs := by
  have hlt := (Array.getElem?_eq_some_iff.1 h.blk).1
  refine ⟨hr, h.bel.trans (grown_below h.row hg h.bel.size), (hg.block ob hlt (Ne.symm h.ne)).trans h.blk, ?_⟩
  rcases hm with q | ⟨g, q1, q2⟩
  · rw [q]; exact h.ne
  · rw [q1]
    intro e
    simp only [Option.some.injEq] at e
    omega
theorem Mid.alloc {W : World} {ob : Nat} {C : Array Value} {t : TypeId} {wx : World} {v : Value} {ys : List Int} (h : Mid W ob C t wx v ys) (o : Obj) : Mid W ob C t (wx.alloc o) v ys := by
  have hb : Below wx.heap.size wx (wx.alloc o) := (Below.refl _ wx).alloc (Nat.le_refl _) _
  exact ⟨h.row.later hb, h.bel.trans (hb.mono h.bel.size), (hb.block ob (Array.getElem?_eq_some_iff.1 h.blk).1).trans h.blk, h.ne⟩
theorem Mid.drew {W : World} {ob : Nat} {C : Array Value} {t : TypeId} {wx : World} {v : Value} {ys : List Int} (h : Mid W ob C t wx v ys) : Mid W ob C t wx.drew v ys := ⟨h.row, h.bel.drew, h.blk, h.ne⟩
theorem Mid.cells {W : World} {ob : Nat} {c0 c1 c2 c3 : Value} {t : TypeId} {wx : World} {v : Value} {ys : List Int} (h : Mid W ob #[c0, c1, c2, c3] t wx v ys) : wx.cell? ⟨ob, 0, none⟩ = some c0 ∧ wx.cell? ⟨ob, 1, none⟩ = some c1 ∧ wx.cell? ⟨ob, 2, none⟩ = some c2 ∧ wx.cell? ⟨ob, 3, none⟩ = some c3 :=
  ⟨by rw [cell_of h.blk]; rfl, by rw [cell_of h.blk]; rfl, by rw [cell_of h.blk]; rfl, by rw [cell_of h.blk]; rfl⟩
def enV (s : Int) (os : List OpV) : List Int := if mayB s os = 0 then enB s os else []
theorem enOs_take {os : List OpV} {k : Nat} {o : OpV} (h : os[k]? = some o) : enOs (os.take (k + 1)) = enOs (os.take k) ++ enO o := by
  obtain ⟨hk, rfl⟩ := List.getElem?_eq_some_iff.1 h
  rw [List.take_add_one, List.getElem?_eq_getElem hk, enOs_app]
  show _ ++ (enO os[k] ++ []) = _
  rw [List.append_nil]

end Go.Proofs.Ytimpaindbbjieab

/- The document's own Block: what it refuses. -/
namespace Go.Proofs.Ytimpaindbbjieab
open Go.RowKit
set_option linter.unusedVariables false
set_option linter.unusedSimpArgs false

theorem all_takeM {l : List EntV} {k : Nat} (h : ∀ j (hj : j < l.length), j < k → mayE l[j] = true) (hk : l.length ≤ k) : l.all mayE = true := by
  rw [List.all_eq_true]
  intro x hx
  obtain ⟨j, hj, rfl⟩ := List.getElem_of_mem hx
  exact h j hj (by omega)
end Go.Proofs.Ytimpaindbbjieab

/- Blocks: two rows that grow side by side; the entries one by one. -/
import Derived.Test.YtifgojkmdicdmaaBlk2
namespace Go.Proofs.Ytifgojkmdicdmaa
open Go.RowKit
set_option linter.unusedVariables false
set_option linter.unusedSimpArgs false

theorem Row.other {B : Nat} {w w' : World} {u : Value} {zs : List Int} {r : Option Nat} (h : Row B w u zs) (hg : w.grownBy w' r) (hne : ∀ g, u.ownBlock = some g → r ≠ some g) : Row B w' u zs := by
  refine ⟨h.1, ?_⟩
  rcases h.2 with q | ⟨g, cap, cur, q1, q2, q3, q4⟩
  · exact .inl q
  · exact .inr ⟨g, cap, cur, q1, q2, by rw [hg.block g (Array.getElem?_eq_some_iff.1 q3).1 (fun e => hne g (by rw [q1]; rfl) e.symm)]; exact q3, q4⟩
/-- Two rows of one's own, beside a block that is read. -/
structure Two (W : World) (ob : Nat) (C : Array Value) (t : TypeId) (wx : World) (v u : Value) (ys zs : List Int) : Prop where
  mid : Mid W ob C t wx v ys
  row2 : Row W.heap.size wx u zs
  ne2 : u.ownBlock ≠ some ob
  sep : ∀ g, v.ownBlock = some g → u.ownBlock ≠ some g
theorem Two.swap {W : World} {ob : Nat} {C : Array Value} {t : TypeId} {wx : World} {v u : Value} {ys zs : List Int} (h : Two W ob C t wx v u ys zs) : Two W ob C t wx u v zs ys :=
  ⟨⟨h.row2, h.mid.bel, h.mid.blk, h.ne2⟩, h.mid.row, h.mid.ne, fun g e1 e2 => h.sep g e2 e1⟩
theorem Two.step {W : World} {ob : Nat} {C : Array Value} {t : TypeId} {wx wy : World} {v v' u : Value} {ys xs zs : List Int} (h : Two W ob C t wx v u ys zs) (hg : wx.grownBy wy v.ownBlock) (hm : Moved wx v v') (hr : Row W.heap.size wy v' xs) : Two W ob C t wy v' u xs zs := by
  refine ⟨h.mid.step hg hm hr, h.row2.other hg (fun g e1 e2 => h.sep g e2 e1), h.ne2, fun g e1 e2 => ?_⟩
  rcases hm with q | ⟨g', q1, q2⟩
  · exact h.sep g (by rw [← q]; exact e1) e2
  · have := (World.ownsRow.lt h.row2 _ e2).2
    rw [q1] at e1
    simp only [Option.some.injEq] at e1
    omega
theorem Two.later {W : World} {ob : Nat} {C : Array Value} {t : TypeId} {wx wy : World} {v u : Value} {ys zs : List Int} (h : Two W ob C t wx v u ys zs) (hb : Below wx.heap.size wx wy) : Two W ob C t wy v u ys zs :=
  ⟨⟨h.mid.row.later hb, h.mid.bel.trans (hb.mono h.mid.bel.size), (hb.block ob (Array.getElem?_eq_some_iff.1 h.mid.blk).1).trans h.mid.blk, h.mid.ne⟩, h.row2.later hb, h.ne2, h.sep⟩
theorem Two.alloc {W : World} {ob : Nat} {C : Array Value} {t : TypeId} {wx : World} {v u : Value} {ys zs : List Int} (h : Two W ob C t wx v u ys zs) (o : Obj) : Two W ob C t (wx.alloc o) v u ys zs := h.later ((Below.refl _ wx).alloc (Nat.le_refl _) _)
theorem Two.drew {W : World} {ob : Nat} {C : Array Value} {t : TypeId} {wx : World} {v u : Value} {ys zs : List Int} (h : Two W ob C t wx v u ys zs) : Two W ob C t wx.drew v u ys zs := ⟨h.mid.drew, h.row2, h.ne2, h.sep⟩
/-- Two rows of one's own. -/
def Pair (W wx : World) (v u : Value) (ys zs : List Int) : Prop := Row W.heap.size wx v ys ∧ Row W.heap.size wx u zs ∧ Below W.heap.size W wx ∧ ∀ g, v.ownBlock = some g → u.ownBlock ≠ some g
theorem Two.pair {W : World} {ob : Nat} {C : Array Value} {t : TypeId} {wx : World} {v u : Value} {ys zs : List Int} (h : Two W ob C t wx v u ys zs) : Pair W wx v u ys zs := ⟨h.mid.row, h.row2, h.mid.bel, h.sep⟩
theorem Pair.two {W wx : World} {C : Array Value} {t : TypeId} {v u : Value} {ys zs : List Int} (h : Pair W wx v u ys zs) : Two W wx.heap.size C t (wx.alloc (.cells C t)) v u ys zs :=
  ⟨⟨h.1.later ((Below.refl _ wx).alloc (Nat.le_refl _) _), h.2.2.1.alloc h.2.2.1.size _, heap_alloc_new wx _, fun e => by have := (World.ownsRow.lt h.1 _ e).2; omega⟩,
    h.2.1.later ((Below.refl _ wx).alloc (Nat.le_refl _) _), fun e => by have := (World.ownsRow.lt h.2.1 _ e).2; omega, h.2.2.2⟩

theorem Two.put {W : World} {ob : Nat} {C : Array Value} {t : TypeId} {wx : World} {v u : Value} {ys zs : List Int} {n : Nat} (h : Two W ob C t wx v u ys zs) (hn : n < 18446744073709551616) (hy : ys.length ≤ 2000000) :
    Calls Try.prog 29 #[v, .int .u64 (IntKind.u64.wrap (n : Int))] wx fun e w' => ∃ v', e = .returned v' ∧ Two W ob C t w' v' u (ys ++ uv n) zs := by
  rw [wrap64u hn]
  refine (rput_any W.heap.size v ys n wx h.mid.row h.mid.bel.size (by have := uv_len64 hn; omega) hn).mono ?_
  rintro e w' ⟨v', rfl, r, g, m⟩
  exact ⟨v', rfl, h.step g m r⟩
theorem Two.put2 {W : World} {ob : Nat} {C : Array Value} {t : TypeId} {wx : World} {v u : Value} {ys zs : List Int} {n : Nat} (h : Two W ob C t wx v u ys zs) (hn : n < 18446744073709551616) (hy : ys.length ≤ 2000000) :
    Calls Try.prog 29 #[v, .int .u64 (n : Int)] wx fun e w' => ∃ v', e = .returned v' ∧ Two W ob C t w' v' u (ys ++ uv n) zs := by
  refine (rput_any W.heap.size v ys n wx h.mid.row h.mid.bel.size (by have := uv_len64 hn; omega) hn).mono ?_
  rintro e w' ⟨v', rfl, r, g, m⟩
  exact ⟨v', rfl, h.step g m r⟩
theorem Two.pby {W : World} {ob : Nat} {C : Array Value} {t : TypeId} {wx : World} {v u : Value} {ys zs : List Int} {so : Option Addr} {ls cs : Nat} {rs : List Int} (h : Two W ob C t wx v u ys zs) (hs : Sl W so ls cs rs) (hl : ls ≤ 1000000) (hy : ys.length ≤ 2000000) :
    Calls Try.prog 28 #[v, .slice so ls cs] wx fun e w' => ∃ v', e = .returned v' ∧ Two W ob C t w' v' u (ys ++ lb rs) zs := by
  refine (rpb_l h.mid.row (Nat.le_refl _) h.mid.bel h.mid.bel.size hs (by omega)).mono ?_
  rintro e w' ⟨v', rfl, r, g, m⟩
  exact ⟨v', rfl, h.step g m r⟩
theorem Two.cells {W : World} {ob : Nat} {c0 c1 c2 c3 c4 : Value} {t : TypeId} {wx : World} {v u : Value} {ys zs : List Int} (h : Two W ob #[c0, c1, c2, c3, c4] t wx v u ys zs) : wx.cell? ⟨ob, 0, none⟩ = some c0 ∧ wx.cell? ⟨ob, 1, none⟩ = some c1 ∧ wx.cell? ⟨ob, 2, none⟩ = some c2 ∧ wx.cell? ⟨ob, 3, none⟩ = some c3 ∧ wx.cell? ⟨ob, 4, none⟩ = some c4 :=
  ⟨by rw [cell_of h.mid.blk]; rfl, by rw [cell_of h.mid.blk]; rfl, by rw [cell_of h.mid.blk]; rfl, by rw [cell_of h.mid.blk]; rfl, by rw [cell_of h.mid.blk]; rfl⟩

/-- One byte behind a row of one's own, as a step of a region that does not draw. -/
theorem wpList_app1r {w : World} {ops : Array Oper} {rest : List Oper} {o : Oper} {a : Act} {Q : Exit → Act → World → Prop} {B N : Nat} {v : Value} {xs : List Int} {c : Int} (hgd : o.guard = none) (s x : Operand)
    (ho : o.op = .call { callee := .builtin .append, args := #[s, x], argTypes := #[25, 25] }) (hs : a.eval s = v) (hrow : Row B w v xs) (hx : a.eval x = .slice (some ⟨N, 0, none⟩) 1 1) (hc : w.cell? ⟨N, 0, none⟩ = some (.int .u8 c)) (hc8 : 0 ≤ c ∧ c < 256) (hb : xs.length + 1 ≤ 140737488355328) (hB : B ≤ w.heap.size)
    (h : ∀ v' w', Row B w' v' (xs ++ [c]) → w.grownBy w' v.ownBlock → Moved w v v' → wpList Try.prog ops Q rest (a.put o.dst v') w') : wpList Try.prog ops Q (o :: rest) a w :=
  wpList_plain hgd fun K hK => by
    obtain ⟨n, rfl⟩ := Int.eq_ofNat_of_zero_le hc8.1
    obtain ⟨v', w', hr, h2, h3, h4⟩ := run_app B w o.type v xs hrow (some ⟨N, 0, none⟩) 1 1 (fun _ => n) (fun e => by cases e) (fun k hk => by
      obtain rfl : k = 0 := by omega
      exact ⟨by show n < 256; omega, N, 0, rfl, hc⟩) hb hB
    unfold Oper.wp execOp
    simp only [ho, resolve, invoke, builtin, Sem.run_bind, Sem.run_pure, Result.andThen_ok, List.map_toArray, List.map_cons, List.map_nil, hs, hx, hr]
    exact hK _ _ (h v' w' h2 h3 h4)

/-- The key ahead of the next. -/
def lastK (prev : List Int) : List EntV → List Int
  | [] => prev
  | e :: r => lastK e.key r
theorem enEs_snoc : ∀ (l : List EntV) (i : Nat) (prev : List Int) (e : EntV), enEs i prev (l ++ [e]) = enEs i prev l ++ enE (shI (i + l.length) e.key (lastK prev l)) e
  | [], i, prev, e => by simp [enEs, lastK]
  | x :: r, i, prev, e => by
    show enE _ x ++ enEs (i + 1) x.key (r ++ [e]) = (enE _ x ++ enEs (i + 1) x.key r) ++ _
    rw [enEs_snoc r (i + 1) x.key e, List.append_assoc, List.length_cons, show i + 1 + r.length = i + (r.length + 1) by omega]
    rfl
theorem enTl_snoc : ∀ (l : List EntV) (i pos : Nat) (prev : List Int) (e : EntV), enTl i pos prev (l ++ [e]) = enTl i pos prev l ++ (if (i + l.length) % 8 = 0 then fx (pos + (enEs i prev l).length) 4 else [])
  | [], i, pos, prev, e => by simp [enTl, enEs]
  | x :: r, i, pos, prev, e => by
    show _ ++ enTl (i + 1) (pos + (enE (shI i x.key prev) x).length) x.key (r ++ [e]) = (_ ++ enTl (i + 1) (pos + (enE (shI i x.key prev) x).length) x.key r) ++ _
    rw [enTl_snoc r (i + 1) _ x.key e, List.append_assoc, List.length_cons, show i + 1 + r.length = i + (r.length + 1) by omega]
    show _ = _ ++ (_ ++ if _ then fx (pos + (enE (shI i x.key prev) x ++ enEs (i + 1) x.key r).length) 4 else [])
    rw [List.length_append, ← Nat.add_assoc pos]
theorem lastK_take : ∀ (l : List EntV) (k : Nat) (prev : List Int) (h : k < l.length), lastK prev (l.take (k + 1)) = l[k].key
  | x :: r, 0, prev, h => by simp [lastK]
  | x :: r, k + 1, prev, h => by
    rw [List.take_succ_cons]
    show lastK x.key (r.take (k + 1)) = _
    rw [lastK_take r k x.key (by simpa using h)]
    rfl
theorem take_snoc {l : List EntV} {k : Nat} (h : k < l.length) : l.take (k + 1) = l.take k ++ [l[k]] := by
  rw [List.take_add_one, List.getElem?_eq_getElem h]; rfl
/-- How much the entry at k shares with the one ahead. -/
def shK (l : List EntV) (k : Nat) : Nat := shI k (l[k]?.elim [] (·.key)) (lastK [] (l.take k))
theorem enEs_take {l : List EntV} {k : Nat} (h : k < l.length) : enEs 0 [] (l.take (k + 1)) = enEs 0 [] (l.take k) ++ enE (shK l k) l[k] := by
  rw [take_snoc h, enEs_snoc, List.length_take, Nat.min_eq_left (by omega), Nat.zero_add]
  unfold shK
  rw [List.getElem?_eq_getElem h]
  rfl
theorem enTl_take {l : List EntV} {k : Nat} (h : k < l.length) : enTl 0 0 [] (l.take (k + 1)) = enTl 0 0 [] (l.take k) ++ (if k % 8 = 0 then fx (enEs 0 [] (l.take k)).length 4 else []) := by
  rw [take_snoc h, enTl_snoc, List.length_take, Nat.min_eq_left (by omega), Nat.zero_add, Nat.zero_add]
theorem shK_zero {l : List EntV} {k : Nat} (h : k % 8 = 0) : shK l k = 0 := by unfold shK shI; rw [if_pos h]
theorem shK_some {l : List EntV} {k : Nat} (hk : k + 1 < l.length) (h : (k + 1) % 8 ≠ 0) : shK l (k + 1) = shr l[k + 1].key l[k].key := by
  unfold shK shI
  rw [if_neg h, List.getElem?_eq_getElem hk, lastK_take l k [] (by omega)]
  rfl
theorem enE_len {n : Nat} {e : EntV} (h : mayE e = true) (hn : n ≤ 512) : (enE n e).length ≤ 2700 := by
  obtain ⟨h1, h2, h3, h4, h5, h6, h7, h8⟩ := mayE_ok h
  have a1 := uv_len64 (n := n) (by omega)
  have a2 := uv_len64 (n := (e.key.drop n).length) (by rw [List.length_drop]; omega)
  have a3 := uv_len64 (n := e.seq.toNat) (by omega)
  have a4 := uv_len64 (n := e.till.toNat) (by omega)
  have a5 := uv_len64 (n := e.val.length) (by omega)
  unfold enE
  simp only [List.length_append, lb_len]
  rw [List.length_drop] at a2 ⊢
  split
  · simp; omega
  · simp only [List.length_cons, List.length_append, lb_len]; omega
theorem shK_le {l : List EntV} {k : Nat} (h : k < l.length) : shK l k ≤ l[k].key.length := by
  unfold shK shI
  rw [List.getElem?_eq_getElem h]
  split
  · omega
  · exact (shr_le _ _).1
theorem enEs_tlen {l : List EntV} (h : l.all mayE = true) : ∀ k, k ≤ l.length → (enEs 0 [] (l.take k)).length ≤ 2700 * k
  | 0, _ => by simp [enEs]
  | k + 1, hk => by
    have hm : mayE l[k] = true := List.all_eq_true.1 h _ (List.getElem_mem (by omega))
    rw [enEs_take (by omega), List.length_append]
    have := enEs_tlen h k (by omega)
    have := enE_len (n := shK l k) hm (by have := shK_le (l := l) (k := k) (by omega); have := (mayE_ok hm).2.1; omega)
    omega
theorem enTl_tlen {l : List EntV} : ∀ k, k ≤ l.length → (enTl 0 0 [] (l.take k)).length ≤ 4 * k
  | 0, _ => by simp [enTl]
  | k + 1, hk => by
    rw [enTl_take (by omega), List.length_append]
    have := enTl_tlen (l := l) k (by omega)
    split
    · rw [fx_length]; omega
    · simp; omega
/-- Keys that share k bytes share more, or no more. -/
theorem shr_more : ∀ (a b : List Int) (k : Nat), k ≤ shr a b → (k < shr a b ↔ ∃ (h1 : k < a.length) (h2 : k < b.length), a[k] = b[k])
  | [], b, k, h => by simp [shr] at h ⊢
  | x :: a, [], k, h => by simp [shr] at h ⊢
  | x :: a, y :: b, k, h => by
    unfold shr at h ⊢
    split at h
    · rename_i e
      rw [if_pos e]
      cases k with
      | zero => simp [e]
      | succ k =>
        have := shr_more a b k (by omega)
        simp only [List.length_cons, List.getElem_cons_succ, Nat.add_lt_add_iff_right]
        exact this
    · rename_i e
      rw [if_neg e]
      obtain rfl : k = 0 := by omega
      simp [e]
end Go.Proofs.Ytifgojkmdicdmaa

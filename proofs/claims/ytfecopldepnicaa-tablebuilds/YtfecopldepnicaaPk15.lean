import Derived.Test.YtfecopldepnicaaPk01
import Derived.Test.YtfecopldepnicaaPk14
/- Blocks: two rows that grow side by side; the entries one by one. -/
namespace Go.Proofs.Ytfecopldepnicaa
open Go.RowKit
set_option linter.unusedVariables false
set_option linter.unusedSimpArgs false

theorem Row.other {B : Nat} {w w' : World} {u : Value} {zs : List Int} {r : Option Nat} (h : Row B w u zs) (hg : w.grownBy w' r) (hne : ∀ g, u.ownBlock = some g → r ≠ some g) : Row B w' u zs := by
  refine ⟨h.1, ?_⟩
  rcases h.2 with q | ⟨g, cap, cur, q1, q2, q3, q4⟩
  · exact .inl q
  · exact .inr ⟨g, cap, cur, q1, q2, by rw [hg.block g (Array.getElem?_eq_some_iff.1 q3).1 (fun e => hne g (by rw [q1]; rfl) e.symm)]; exact q3, q4⟩
/-- Two rows of one's own, beside a block that is read. -/
structure Two (W : World) (ob : Nat) (C : Array Value) (t : TypeId) (wx : World) (v u : Value) (ys zs : List Int) : Prop where
  mid : Mid W ob C t wx v ys
  row2 : Row W.heap.size wx u zs
  ne2 : u.ownBlock ≠ some ob
  sep : ∀ g, v.ownBlock = some g → u.ownBlock ≠ some g
theorem Two.swap {W : World} {ob : Nat} {C : Array Value} {t : TypeId} {wx : World} {v u : Value} {ys zs : List Int} (h : Two W ob C t wx v u ys zs) : Two W ob C t wx u v zs ys :=
  ⟨⟨h.row2, h.mid.bel, h.mid.blk, h.ne2⟩, h.mid.row, h.mid.ne, fun g e1 e2 => h.sep g e2 e1⟩
theorem Two.step {W : World} {ob : Nat} {C : Array Value} {t : TypeId} {wx wy : World} {v v' u : Value} {ys xs zs : List Int} (h : Two W ob C t wx v u ys zs) (hg : wx.grownBy wy v.ownBlock) (hm : Moved wx v v') (hr : Row W.heap.size wy v' xs) : Two W ob C t wy v' u xs zs := by
  refine ⟨h.mid.step hg hm hr, h.row2.other hg (fun g e1 e2 => h.sep g e2 e1), h.ne2, fun g e1 e2 => ?_⟩
  rcases hm with q | ⟨g', q1, q2⟩
  · exact h.sep g (by rw [← q]; exact e1) e2
  · have := (World.ownsRow.lt h.row2 _ e2).2
    rw [q1] at e1
    simp only [Option.some.injEq] at e1
    omega
theorem Two.later {W : World} {ob : Nat} {C : Array Value} {t : TypeId} {wx wy : World} {v u : Value} {ys zs : List Int} (h : Two W ob C t wx v u ys zs) (hb : Below wx.heap.size wx wy) : Two W ob C t wy v u ys zs :=
  ⟨⟨h.mid.row.later hb, h.mid.bel.trans (hb.mono h.mid.bel.size), (hb.block ob (Array.getElem?_eq_some_iff.1 h.mid.blk).1).trans h.mid.blk, h.mid.ne⟩, h.row2.later hb, h.ne2, h.sep⟩
theorem Two.alloc {W : World} {ob : Nat} {C : Array Value} {t : TypeId} {wx : World} {v u : Value} {ys zs : List Int} (h : Two W ob C t wx v u ys zs) (o : Obj) : Two W ob C t (wx.alloc o) v u ys zs := h.later ((Below.refl _ wx).alloc (Nat.le_refl _) _)
theorem Two.drew {W : World} {ob : Nat} {C : Array Value} {t : TypeId} {wx : World} {v u : Value} {ys zs : List Int} (h : Two W ob C t wx v u ys zs) : Two W ob C t wx.drew v u ys zs := ⟨h.mid.drew, h.row2, h.ne2, h.sep⟩
/-- Two rows of one's own. -/
def Pair (W wx : World) (v u : Value) (ys zs : List Int) : Prop := Row W.heap.size wx v ys ∧ Row W.heap.size wx u zs ∧ Below W.heap.size W wx ∧ ∀ g, v.ownBlock = some g → u.ownBlock ≠ some g
theorem Two.pair {W : World} {ob : Nat} {C : Array Value} {t : TypeId} {wx : World} {v u : Value} {ys zs : List Int} (h : Two W ob C t wx v u ys zs) : Pair W wx v u ys zs := ⟨h.mid.row, h.row2, h.mid.bel, h.sep⟩
theorem Pair.two {W wx : World} {C : Array Value} {t : TypeId} {v u : Value} {ys zs : List Int} (h : Pair W wx v u ys zs) : Two W wx.heap.size C t (wx.alloc (.cells C t)) v u ys zs :=
  ⟨⟨h.1.later ((Below.refl _ wx).alloc (Nat.le_refl _) _), h.2.2.1.alloc h.2.2.1.size _, heap_alloc_new wx _, fun e => by have := (World.ownsRow.lt h.1 _ e).2; omega⟩,
    h.2.1.later ((Below.refl _ wx).alloc (Nat.le_refl _) _), fun e => by have := (World.ownsRow.lt h.2.1 _ e).2; omega, h.2.2.2⟩

theorem Two.put {W : World} {ob : Nat} {C : Array Value} {t : TypeId} {wx : World} {v u : Value} {ys zs : List Int} {n : Nat} (h : Two W ob C t wx v u ys zs) (hn : n < 18446744073709551616) (hy : ys.length ≤ 2000000) :
    Calls Try.prog 40 #[v, .int .u64 (IntKind.u64.wrap (n : Int))] wx fun e w' => ∃ v', e = .returned v' ∧ Two W ob C t w' v' u (ys ++ uv n) zs := by
  rw [wrap64u hn]
  refine (rput_any W.heap.size v ys n wx h.mid.row h.mid.bel.size (by have := uv_len64 hn; omega) hn).mono ?_
  rintro e w' ⟨v', rfl, r, g, m⟩
  exact ⟨v', rfl, h.step g m r⟩
theorem Two.put2 {W : World} {ob : Nat} {C : Array Value} {t : TypeId} {wx : World} {v u : Value} {ys zs : List Int} {n : Nat} (h : Two W ob C t wx v u ys zs) (hn : n < 18446744073709551616) (hy : ys.length ≤ 2000000) :
    Calls Try.prog 40 #[v, .int .u64 (n : Int)] wx fun e w' => ∃ v', e = .returned v' ∧ Two W ob C t w' v' u (ys ++ uv n) zs := by
  refine (rput_any W.heap.size v ys n wx h.mid.row h.mid.bel.size (by have := uv_len64 hn; omega) hn).mono ?_
  rintro e w' ⟨v', rfl, r, g, m⟩
  exact ⟨v', rfl, h.step g m r⟩
theorem Two.pby {W : World} {ob : Nat} {C : Array Value} {t : TypeId} {wx : World} {v u : Value} {ys zs : List Int} {so : Option Addr} {ls cs : Nat} {rs : List Int} (h : Two W ob C t wx v u ys zs) (hs : Sl W so ls cs rs) (hl : ls ≤ 1000000) (hy : ys.length ≤ 2000000) :
    Calls Try.prog 39 #[v, .slice so ls cs] wx fun e w' => ∃ v', e = .returned v' ∧ Two W ob C t w' v' u (ys ++ lb rs) zs := by
  refine (rpb_l h.mid.row (Nat.le_refl _) h.mid.bel h.mid.bel.size hs (by omega)).mono ?_
  rintro e w' ⟨v', rfl, r, g, m⟩
  exact ⟨v', rfl, h.step g m r⟩
theorem Two.cells {W : World} {ob : Nat} {c0 c1 c2 c3 c4 : Value} {t : TypeId} {wx : World} {v u : Value} {ys zs : List Int} (h : Two W ob #[c0, c1, c2, c3, c4] t wx v u ys zs) : wx.cell? ⟨ob, 0, none⟩ = some c0 ∧ wx.cell? ⟨ob, 1, none⟩ = some c1 ∧ wx.cell? ⟨ob, 2, none⟩ = some c2 ∧ wx.cell? ⟨ob, 3, none⟩ = some c3 ∧ wx.cell? ⟨ob, 4, none⟩ = some c4 :=
  ⟨by rw [cell_of h.mid.blk]; rfl, by rw [cell_of h.mid.blk]; rfl, by rw [cell_of h.mid.blk]; rfl, by rw [cell_of h.mid.blk]; rfl, by rw [cell_of h.mid.blk]; rfl⟩

/-- One byte behind a row of one's own, as a step of a region that does not draw. -/
theorem wpList_app1r {w : World} {ops : Array Oper} {rest : List Oper} {o : Oper} {a : Act} {Q : Exit → Act → World → Prop} {B N : Nat} {v : Value} {xs : List Int} {c : Int} (hgd : o.guard = none) (s x : Operand)
    (ho : o.op = .call { callee := .builtin .append, args := #[s, x], argTypes := #[25, 25] }) (hs : a.eval s = v) (hrow : Row B w v xs) (hx : a.eval x = .slice (some ⟨N, 0, none⟩) 1 1) (hc : w.cell? ⟨N, 0, none⟩ = some (.int .u8 c)) (hc8 : 0 ≤ c ∧ c < 256) (hb : xs.length + 1 ≤ 140737488355328) (hB : B ≤ w.heap.size)
    (h : ∀ v' w', Row B w' v' (xs ++ [c]) → w.grownBy w' v.ownBlock → Moved w v v' → wpList Try.prog ops Q rest (a.put o.dst v') w') : wpList Try.prog ops Q (o :: rest) a w :=
  wpList_plain hgd fun K hK => by
    obtain ⟨n, rfl⟩ := Int.eq_ofNat_of_zero_le hc8.1
    obtain ⟨v', w', hr, h2, h3, h4⟩ := run_app B w o.type v xs hrow (some ⟨N, 0, none⟩) 1 1 (fun _ => n) (fun e => by cases e) (fun k hk => by
      obtain rfl : k = 0 := by omega
      exact ⟨by show n < 256; omega, N, 0, rfl, hc⟩) hb hB
    unfold Oper.wp execOp
    simp only [ho, resolve, invoke, builtin, Sem.run_bind, Sem.run_pure, Result.andThen_ok, List.map_toArray, List.map_cons, List.map_nil, hs, hx, hr]
    exact hK _ _ (h v' w' h2 h3 h4)

/-- The key ahead of the next. -/
def lastK (prev : List Int) : List EntV → List Int
  | [] => prev
  | e :: r => lastK e.key r
theorem enEs_snoc : ∀ (l : List EntV) (i : Nat) (prev : List Int) (e : EntV), enEs i prev (l ++ [e]) = enEs i prev l ++ enE (shI (i + l.length) e.key (lastK prev l)) e
  | [], i, prev, e => by simp [enEs, lastK]
  | x :: r, i, prev, e => by
    show enE _ x ++ enEs (i + 1) x.key (r ++ [e]) = (enE _ x ++ enEs (i + 1) x.key r) ++ _
    rw [enEs_snoc r (i + 1) x.key e, List.append_assoc, List.length_cons, show i + 1 + r.length = i + (r.length + 1) by omega]
    rfl
theorem enTl_snoc : ∀ (l : List EntV) (i pos : Nat) (prev : List Int) (e : EntV), enTl i pos prev (l ++ [e]) = enTl i pos prev l ++ (if (i + l.length) % 8 = 0 then fx (pos + (enEs i prev l).length) 4 else [])
  | [], i, pos, prev, e => by simp [enTl, enEs]
  | x :: r, i, pos, prev, e => by
    show _ ++ enTl (i + 1) (pos + (enE (shI i x.key prev) x).length) x.key (r ++ [e]) = (_ ++ enTl (i + 1) (pos + (enE (shI i x.key prev) x).length) x.key r) ++ _
    rw [enTl_snoc r (i + 1) _ x.key e, List.append_assoc, List.length_cons, show i + 1 + r.length = i + (r.length + 1) by omega]
    show _ = _ ++ (_ ++ if _ then fx (pos + (enE (shI i x.key prev) x ++ enEs (i + 1) x.key r).length) 4 else [])
    rw [List.length_append, ← Nat.add_assoc pos]
theorem lastK_take : ∀ (l : List EntV) (k : Nat) (prev : List Int) (h : k < l.length), lastK prev (l.take (k + 1)) = l[k].key
  | x :: r, 0, prev, h => by simp [lastK]
  | x :: r, k + 1, prev, h => by
    rw [List.take_succ_cons]
    show lastK x.key (r.take (k + 1)) = _
    rw [lastK_take r k x.key (by simpa using h)]
    rfl
theorem take_snoc {l : List EntV} {k : Nat} (h : k < l.length) : l.take (k + 1) = l.take k ++ [l[k]] := by
  rw [List.take_add_one, List.getElem?_eq_getElem h]; rfl
/-- How much the entry at k shares with the one ahead. -/
def shK (l : List EntV) (k : Nat) : Nat := shI k (l[k]?.elim [] (·.key)) (lastK [] (l.take k))
theorem enEs_take {l : List EntV} {k : Nat} (h : k < l.length) : enEs 0 [] (l.take (k + 1)) = enEs 0 [] (l.take k) ++ enE (shK l k) l[k] := by
  rw [take_snoc h, enEs_snoc, List.length_take, Nat.min_eq_left (by omega), Nat.zero_add]
  unfold shK
  rw [List.getElem?_eq_getElem h]
  rfl
theorem enTl_take {l : List EntV} {k : Nat} (h : k < l.length) : enTl 0 0 [] (l.take (k + 1)) = enTl 0 0 [] (l.take k) ++ (if k % 8 = 0 then fx (enEs 0 [] (l.take k)).length 4 else []) := by
  rw [take_snoc h, enTl_snoc, List.length_take, Nat.min_eq_left (by omega), Nat.zero_add, Nat.zero_add]
theorem shK_zero {l : List EntV} {k : Nat} (h : k % 8 = 0) : shK l k = 0 := by unfold shK shI; rw [if_pos h]
theorem shK_some {l : List EntV} {k : Nat} (hk : k + 1 < l.length) (h : (k + 1) % 8 ≠ 0) : shK l (k + 1) = shr l[k + 1].key l[k].key := by
  unfold shK shI
  rw [if_neg h, List.getElem?_eq_getElem hk, lastK_take l k [] (by omega)]
  rfl
theorem enE_len {n : Nat} {e : EntV} (h : mayE e = true) (hn : n ≤ 512) : (enE n e).length ≤ 2700 := by
  obtain ⟨h1, h2, h3, h4, h5, h6, h7, h8⟩ := mayE_ok h
  have a1 := uv_len64 (n := n) (by omega)
  have a2 := uv_len64 (n := (e.key.drop n).length) (by rw [List.length_drop]; omega)
  have a3 := uv_len64 (n := e.seq.toNat) (by omega)
  have a4 := uv_len64 (n := e.till.toNat) (by omega)
  have a5 := uv_len64 (n := e.val.length) (by omega)
  unfold enE
  simp only [List.length_append, lb_len]
  rw [List.length_drop] at a2 ⊢
  split
  · simp; omega
  · simp only [List.length_cons, List.length_append, lb_len]; omega
theorem shK_le {l : List EntV} {k : Nat} (h : k < l.length) : shK l k ≤ l[k].key.length := by
  unfold shK shI
  rw [List.getElem?_eq_getElem h]
  split
  · omega
  · exact (shr_le _ _).1
theorem enEs_tlen {l : List EntV} (h : l.all mayE = true) : ∀ k, k ≤ l.length → (enEs 0 [] (l.take k)).length ≤ 2700 * k
  | 0, _ => by simp [enEs]
  | k + 1, hk => by
    have hm : mayE l[k] = true := List.all_eq_true.1 h _ (List.getElem_mem (by omega))
    rw [enEs_take (by omega), List.length_append]
    have := enEs_tlen h k (by omega)
    have := enE_len (n := shK l k) hm (by have := shK_le (l := l) (k := k) (by omega); have := (mayE_ok hm).2.1; omega)
    omega
theorem enTl_tlen {l : List EntV} : ∀ k, k ≤ l.length → (enTl 0 0 [] (l.take k)).length ≤ 4 * k
  | 0, _ => by simp [enTl]
  | k + 1, hk => by
    rw [enTl_take (by omega), List.length_append]
    have := enTl_tlen (l := l) k (by omega)
    split
    · rw [fx_length]; omega
    · simp; omega
/-- Keys that share k bytes share more, or no more. -/
theorem shr_more : ∀ (a b : List Int) (k : Nat), k ≤ shr a b → (k < shr a b ↔ ∃ (h1 : k < a.length) (h2 : k < b.length), a[k] = b[k])
  | [], b, k, h => by simp [shr] at h ⊢
  | x :: a, [], k, h => by simp [shr] at h ⊢
  | x :: a, y :: b, k, h => by
    unfold shr at h ⊢
    split at h
    · rename_i e
      rw [if_pos e]
      cases k with
      | zero => simp [e]
      | succ k =>
        have := shr_more a b k (by omega)
        simp only [List.length_cons, List.getElem_cons_succ, Nat.add_lt_add_iff_right]
        exact this
    · rename_i e
      rw [if_neg e]
      obtain rfl : k = 0 := by omega
      simp [e]
end Go.Proofs.Ytfecopldepnicaa

/- Filters, on lists: the hash, its probes, a filter's bytes; what follows. -/
namespace Go.Proofs.Ytfecopldepnicaa
set_option linter.unusedVariables false
set_option linter.unusedSimpArgs false

def hst (h : Nat) (c : Int) : Nat := 1099511628211 * (h ^^^ c.toNat) % 18446744073709551616
def hsh (key : List Int) : Nat := key.foldl hst 14695981039346656037
theorem hst_lt (h : Nat) (c : Int) : hst h c < 18446744073709551616 := by unfold hst; omega
theorem hsh_lt (key : List Int) : hsh key < 18446744073709551616 := by
  unfold hsh
  rcases List.eq_nil_or_concat key with rfl | ⟨r, c, rfl⟩
  · simp only [List.foldl_nil]; omega
  · rw [List.concat_eq_append, List.foldl_append]; exact hst_lt _ _
theorem hsh_take {key : List Int} {k : Nat} {c : Int} (h : key[k]? = some c) : hsh (key.take (k + 1)) = hst (hsh (key.take k)) c := by
  unfold hsh
  rw [List.take_add_one, h, List.foldl_append]
  rfl
/-- One probe. -/
def prb1 (h m j : Nat) : Nat := (h + j * (h / 8589934592 * 2 + 1)) % 18446744073709551616 % m
def prbs (key : List Int) (m : Nat) : List Nat := if m = 0 then [] else (List.range 6).map (prb1 (hsh key) m)
theorem prbs_len {key : List Int} {m : Nat} (h : m ≠ 0) : (prbs key m).length = 6 := by unfold prbs; rw [if_neg h]; simp
theorem prbs_lt {key : List Int} {m p : Nat} (h : p ∈ prbs key m) : p < m := by
  unfold prbs at h
  split at h
  · cases h
  · rename_i q
    obtain ⟨j, _, rfl⟩ := List.mem_map.1 h
    exact Nat.mod_lt _ (by omega)
theorem prbs_at {key : List Int} {m j : Nat} (h : m ≠ 0) (hj : j < 6) : (prbs key m)[j]? = some (prb1 (hsh key) m j) := by
  unfold prbs
  rw [if_neg h, List.getElem?_map, List.getElem?_range hj]
  rfl
theorem prbs_take {key : List Int} {m j : Nat} (h : m ≠ 0) (hj : j < 6) : (prbs key m).take (j + 1) = (prbs key m).take j ++ [prb1 (hsh key) m j] := by
  rw [List.take_add_one, prbs_at h hj]
  rfl
/-- A bit set. -/
def orb (x : Int) (p : Nat) : Int := ((x.toNat ||| 2 ^ (p % 8) : Nat) : Int)
def setb (b : List Int) (p : Nat) : List Int := b.modify (p / 8) (orb · p)
theorem setb_len (b : List Int) (p : Nat) : (setb b p).length = b.length := by unfold setb; exact List.length_modify ..
def setbs (b : List Int) (ps : List Nat) : List Int := ps.foldl setb b
theorem setbs_len : ∀ (ps : List Nat) (b : List Int), (setbs b ps).length = b.length
  | [], b => rfl
  | p :: r, b => by show (setbs (setb b p) r).length = _; rw [setbs_len r, setb_len]
theorem setbs_app (b : List Int) (ps qs : List Nat) : setbs b (ps ++ qs) = setbs (setbs b ps) qs := List.foldl_append
theorem orb_ok {x : Int} (h : 0 ≤ x ∧ x < 256) (p : Nat) : 0 ≤ orb x p ∧ orb x p < 256 := by
  unfold orb
  have h1 : x.toNat < 2 ^ 8 := by omega
  have h2 : 2 ^ (p % 8) < 2 ^ 8 := Nat.pow_lt_pow_right (by decide) (by omega)
  have := Nat.or_lt_two_pow h1 h2
  omega
theorem setb_ok {b : List Int} (h : Okb b) (p : Nat) : Okb (setb b p) := by
  intro x hx
  unfold setb at hx
  obtain ⟨i, hi, rfl⟩ := List.getElem_of_mem hx
  rw [List.getElem_modify]
  split
  · exact orb_ok (h _ (List.getElem_mem _)) p
  · exact h _ (List.getElem_mem _)
theorem setbs_ok : ∀ (ps : List Nat) {b : List Int}, Okb b → Okb (setbs b ps)
  | [], _, h => h
  | p :: r, _, h => setbs_ok r (setb_ok h p)
theorem orb_comm (x : Int) (p q : Nat) : orb (orb x p) q = orb (orb x q) p := by
  unfold orb
  simp only [Int.toNat_natCast]
  rw [Nat.or_assoc, Nat.or_comm (2 ^ (p % 8)), ← Nat.or_assoc]
theorem setb_comm (b : List Int) (p q : Nat) : setb (setb b p) q = setb (setb b q) p := by
  unfold setb
  apply List.ext_getElem?
  intro i
  simp only [List.getElem?_modify]
  by_cases h1 : p / 8 = i <;> by_cases h2 : q / 8 = i <;> simp [h1, h2]
  cases b[i]? with
  | none => rfl
  | some x => simp [orb_comm]
theorem setbs_perm {ps qs : List Nat} (h : ps.Perm qs) (b : List Int) : setbs b ps = setbs b qs :=
  h.foldl_eq' (fun x _ y _ z => setb_comm z x y) b
/-- The bytes of a filter of n keys. -/
def fsz (n : Nat) : Nat := (max 64 (10 * n) + 7) / 8
def fil (keys : List (List Int)) : List Int := setbs (List.replicate (fsz keys.length) 0) (keys.flatMap fun k => prbs k (8 * fsz keys.length))
theorem fil_len (keys : List (List Int)) : (fil keys).length = fsz keys.length := by unfold fil; rw [setbs_len, List.length_replicate]
theorem okb_zeros (n : Nat) : Okb (List.replicate n 0) := fun x hx => by rw [List.eq_of_mem_replicate hx]; omega
theorem fil_ok (keys : List (List Int)) : Okb (fil keys) := setbs_ok _ (okb_zeros _)
theorem fil_perm {a b : List (List Int)} (h : a.Perm b) : fil a = fil b := by
  unfold fil
  rw [h.length_eq]
  exact setbs_perm (h.flatMap_right _) _
/-- Is the bit set? -/
def hasb (f : List Int) (p : Nat) : Bool := (f.getD (p / 8) 0).toNat.testBit (p % 8)
def has (f key : List Int) : Bool := if f.length = 0 ∨ 1048576 < f.length then true else (prbs key (8 * f.length)).all (hasb f)
theorem hasb_keep {b : List Int} {p : Nat} (q : Nat) (h : hasb b p = true) : hasb (setb b q) p = true := by
  unfold hasb setb at *
  rw [List.getD_eq_getElem?_getD] at h ⊢
  rw [List.getElem?_modify]
  cases hb : b[p / 8]? with
  | none => rw [hb] at h; simp at h
  | some x =>
    rw [hb] at h
    simp only [Option.getD_some] at h
    by_cases e : q / 8 = p / 8
    · simp [e, orb, h]
    · simp [e, h]
theorem hasb_set {b : List Int} {p : Nat} (hp : p / 8 < b.length) : hasb (setb b p) p = true := by
  unfold hasb setb
  rw [List.getD_eq_getElem?_getD, List.getElem?_modify, List.getElem?_eq_getElem hp]
  simp [orb, Nat.testBit_two_pow_self]
theorem hasb_keeps : ∀ (ps : List Nat) {b : List Int} {p : Nat}, hasb b p = true → hasb (setbs b ps) p = true
  | [], _, _, h => h
  | q :: r, _, _, h => hasb_keeps r (hasb_keep q h)
theorem hasb_in : ∀ {ps : List Nat} {b : List Int} {p : Nat}, p ∈ ps → p / 8 < b.length → hasb (setbs b ps) p = true
  | q :: r, b, p, h, hp => by
    rcases List.mem_cons.1 h with e | e
    · subst e; exact hasb_keeps r (hasb_set hp)
    · exact hasb_in (b := setb b q) e (by rw [setb_len]; exact hp)
/-- What was put in is never missed. -/
theorem has_fil {keys : List (List Int)} {k : List Int} (h : k ∈ keys) : has (fil keys) k = true := by
  unfold has
  split
  · rfl
  · rw [List.all_eq_true]
    intro p hp
    rw [fil_len] at hp
    have hlt := prbs_lt hp
    refine hasb_in (List.mem_flatMap.2 ⟨k, h, hp⟩) ?_
    rw [List.length_replicate]
    omega
theorem fsz_mono {a b : Nat} (h : a ≤ b) : fsz a ≤ fsz b := by unfold fsz; omega
theorem fsz_ge (n : Nat) : 8 ≤ fsz n := by unfold fsz; omega
end Go.Proofs.Ytfecopldepnicaa

/- Tables, on lists: how they are written. -/
namespace Go.Proofs.Ytfecopldepnicaa
set_option linter.unusedVariables false
set_option linter.unusedSimpArgs false

/-- Bytes with their sum. -/
def sm (x : List Int) : List Int := x ++ fx (mask (more 0 (nl x))) 4
theorem sm_len (x : List Int) : (sm x).length = x.length + 4 := by simp [sm, fx4]
theorem okb_sm {x : List Int} (h : Okb x) : Okb (sm x) := h.app (okb_fx _ 4)
/-- Entries in blocks. -/
def cutB : Nat → List EntV → List EntV → List (List EntV)
  | _, cur, [] => if cur = [] then [] else [cur]
  | s, cur, e :: r => if 256 ≤ s + wtE e then (cur ++ [e]) :: cutB 0 [] r else cutB (s + wtE e) (cur ++ [e]) r
def cutT (l : List EntV) : List (List EntV) := cutB 0 [] l
theorem cutB_flat : ∀ (l : List EntV) (s : Nat) (cur : List EntV), (cutB s cur l).flatten = cur ++ l
  | [], s, cur => by
    unfold cutB
    split
    · rename_i h; rw [h]; rfl
    · simp
  | e :: r, s, cur => by
    unfold cutB
    split
    · rw [List.flatten_cons, cutB_flat r 0 []]; simp
    · rw [cutB_flat r]; simp
theorem cutT_flat (l : List EntV) : (cutT l).flatten = l := cutB_flat l 0 []
theorem cutB_ne : ∀ (l : List EntV) (s : Nat) (cur : List EntV), ∀ c ∈ cutB s cur l, c ≠ []
  | [], s, cur => by
    unfold cutB
    split
    · intro c hc; cases hc
    · rename_i h; intro c hc; rw [List.mem_singleton.1 hc]; exact h
  | e :: r, s, cur => by
    unfold cutB
    split
    · intro c hc
      rcases List.mem_cons.1 hc with q | q
      · rw [q]; simp
      · exact cutB_ne r 0 [] c q
    · exact cutB_ne r _ _
theorem wtE_ge {e : EntV} (h : mayE e = true) : 17 ≤ wtE e := by have := mayE_ok h; unfold wtE; omega
theorem cutB_few : ∀ (l : List EntV) (s : Nat) (cur : List EntV), (∀ e ∈ l, mayE e = true) → 17 * cur.length ≤ s → s < 256 → ∀ c ∈ cutB s cur l, c.length ≤ 16
  | [], s, cur, hm, h1, h2 => by
    unfold cutB
    split
    · intro c hc; cases hc
    · intro c hc; rw [List.mem_singleton.1 hc]; omega
  | e :: r, s, cur, hm, h1, h2 => by
    have he := wtE_ge (hm e (by simp))
    have hr : ∀ x ∈ r, mayE x = true := fun x hx => hm x (by simp [hx])
    unfold cutB
    split
    · intro c hc
      rcases List.mem_cons.1 hc with q | q
      · rw [q]; simp; omega
      · exact cutB_few r 0 [] hr (by simp) (by omega) c q
    · exact cutB_few r _ _ hr (by simp; omega) (by omega)
theorem cutT_blk {l : List EntV} (hm : ∀ e ∈ l, mayE e = true) (ho : ordE l) : ∀ c ∈ cutT l, blkE c = 0 ∧ (∀ e ∈ c, e ∈ l) := fun c hc => by
  have h1 := cutB_ne l 0 [] c hc
  have h2 := cutB_few l 0 [] hm (by simp) (by omega) c hc
  have hs : c.Sublist l := by
    have := List.sublist_flatten_of_mem hc
    rw [cutT_flat] at this
    exact this
  have hmem : ∀ e ∈ c, e ∈ l := fun e he => hs.subset he
  refine ⟨?_, hmem⟩
  unfold blkE
  have h0 : c.length ≠ 0 := fun z => h1 (List.eq_nil_of_length_eq_zero z)
  rw [if_neg (by omega), if_neg (by rw [List.all_eq_true.2 fun e he => hm e (hmem e he)]; decide), if_neg (by unfold ordB; rw [decide_eq_true (ho.sublist hs)]; decide)]
/-- The keys, each once. -/
def ky1 (out : List (List Int)) (e : EntV) : List (List Int) := if out = [] ∨ out.getLast? ≠ some e.key then out ++ [e.key] else out
def kys (l : List EntV) : List (List Int) := l.foldl ky1 []
/-- The index, from a place on. -/
def idxB : Nat → List (List EntV) → List Int
  | _, [] => []
  | pos, c :: r => lb (lastK [] c) ++ (uv pos ++ (uv (blkB c).length ++ idxB (pos + (blkB c).length + 4) r))
def bodT (bs : List (List EntV)) : List Int := (bs.map fun c => sm (blkB c)).flatten
def idxT (l : List EntV) : List Int := idxB 0 (cutT l)
def filT (l : List EntV) : List Int := fil (kys l)
/-- The foot's numbers. -/
def ftT (l : List EntV) : List Int := fx (bodT (cutT l)).length 4 ++ (fx (idxT l).length 4 ++ (fx ((bodT (cutT l)).length + (idxT l).length + 4) 4 ++ (fx (filT l).length 4 ++ fx l.length 4)))
def magT : List Int := [104, 97, 108, 121, 97, 114, 100, 49]
def tblB (l : List EntV) : List Int := bodT (cutT l) ++ (sm (idxT l) ++ (sm (filT l) ++ (sm (ftT l) ++ magT)))
/-- A table: why there is none. -/
def tblE (l : List EntV) : Nat := if l.length = 0 ∨ 4000 < l.length then 13 else if l.all mayE = false then 1 else if ordB l = false then 11 else if 4194304 < (tblB l).length then 8 else 0
theorem ft_len (l : List EntV) : (ftT l).length = 20 := by simp [ftT, fx_length]
theorem bodT_cons (c : List EntV) (r : List (List EntV)) : bodT (c :: r) = sm (blkB c) ++ bodT r := by simp [bodT]
end Go.Proofs.Ytfecopldepnicaa

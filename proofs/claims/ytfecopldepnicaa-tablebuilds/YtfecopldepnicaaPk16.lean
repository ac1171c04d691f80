import Derived.Test.YtfecopldepnicaaPk15
/- Tables, on lists: how they are read; that what was written is read. -/
namespace Go.Proofs.Ytfecopldepnicaa
set_option linter.unusedVariables false
set_option linter.unusedSimpArgs false

/-- Is the sum behind the bytes theirs? -/
def snd (x : List Int) : Bool := decide (fv (xof (x.drop (x.length - 4))) 4 = mask (more 0 (nl (x.take (x.length - 4)))))
/-- Bytes with their sum, within the first most bytes. -/
def prt (b : List Int) (place size most : Nat) : Option (List Int) := if most < place ∨ most - place < size + 4 then none else some ((b.drop place).take (size + 4))
def ftN (b : List Int) (k : Nat) : Nat := fv (xof (b.drop (b.length - 32 + 4 * k))) 4
/-- The index, read: the blocks' bytes; 0 or 3. -/
def rdI : Nat → List Int → Nat → Rd → List (List Int) × Nat
  | 0, _, _, s => ([], s.2)
  | n + 1, b, m, s => if s.1.length = 0 then ([], 0) else
    match prt b (rdN 9223372036854775808 (rdB 512 s).2).1 (rdN 4611686018427387904 (rdN 9223372036854775808 (rdB 512 s).2).2).1 m with
    | some x => if (rdN 4611686018427387904 (rdN 9223372036854775808 (rdB 512 s).2).2).2.2 ≠ 0 then ([], 3) else (x :: (rdI n b m (rdN 4611686018427387904 (rdN 9223372036854775808 (rdB 512 s).2).2).2).1, (rdI n b m (rdN 4611686018427387904 (rdN 9223372036854775808 (rdB 512 s).2).2).2).2)
    | none => ([], 3)
/-- The blocks, taken: an error, or their entries. -/
def tkBs (tk : List Int → Nat × List EntV) : List (List Int) → Nat × List EntV
  | [] => (0, [])
  | x :: r => if (tk (x.take (x.length - 4))).1 ≠ 0 then ((tk (x.take (x.length - 4))).1, []) else ((tkBs tk r).1, (tk (x.take (x.length - 4))).2 ++ (tkBs tk r).2)
/-- What Open answers, where a block is taken by tk. -/
def opT (tk : List Int → Nat × List EntV) (b : List Int) : Nat × List EntV :=
  if b.length < 32 then (5, [])
  else if b.drop (b.length - 8) ≠ magT then (3, [])
  else if snd ((b.drop (b.length - 32)).take 24) = false then (4, [])
  else match prt b (ftN b 0) (ftN b 1) (b.length - 32), prt b (ftN b 2) (ftN b 3) (b.length - 32) with
    | some ix, some fl =>
      if snd ix = false ∨ snd fl = false then (4, [])
      else if (rdI ix.length b (ftN b 0) (ix.take (ix.length - 4), 0)).2 ≠ 0 then (3, [])
      else if (rdI ix.length b (ftN b 0) (ix.take (ix.length - 4), 0)).1.all snd = false then (4, [])
      else if (tkBs tk (rdI ix.length b (ftN b 0) (ix.take (ix.length - 4), 0)).1).1 ≠ 0 then ((tkBs tk (rdI ix.length b (ftN b 0) (ix.take (ix.length - 4), 0)).1).1, [])
      else if tblE (tkBs tk (rdI ix.length b (ftN b 0) (ix.take (ix.length - 4), 0)).1).2 ≠ 0 ∨ tblB (tkBs tk (rdI ix.length b (ftN b 0) (ix.take (ix.length - 4), 0)).1).2 ≠ b then (3, [])
      else (0, (tkBs tk (rdI ix.length b (ftN b 0) (ix.take (ix.length - 4), 0)).1).2)
    | _, _ => (3, [])
/-- As the document's own takes a block. -/
def tkD (b : List Int) : Nat × List EntV := (tkE b, tkB b)
/-- What is opened is written so. -/
theorem opT_tbl {tk : List Int → Nat × List EntV} {b : List Int} (h : (opT tk b).1 = 0) : tblE (opT tk b).2 = 0 ∧ tblB (opT tk b).2 = b := by
  unfold opT at h ⊢
  split at h
  · cases h
  rename_i z1
  rw [if_neg z1]
  split at h
  · cases h
  rename_i z2
  rw [if_neg z2]
  split at h
  · cases h
  rename_i z3
  rw [if_neg z3]
  split at h
  · rename_i ix fl e1 e2
    split at h
    · cases h
    rename_i z4
    rw [if_neg z4]
    split at h
    · cases h
    rename_i z5
    rw [if_neg z5]
    split at h
    · cases h
    rename_i z6
    rw [if_neg z6]
    split at h
    · rename_i z7; exact absurd h z7
    rename_i z7
    rw [if_neg z7]
    split at h
    · cases h
    rename_i z8
    rw [if_neg z8]
    simp only [ne_eq, not_or, Classical.not_not] at z8
    exact z8
  · cases h
theorem snd_sm {x : List Int} (h : Okb x) : snd (sm x) = true := by
  unfold snd
  rw [sm_len, Nat.add_sub_cancel]
  have e1 : (sm x).drop x.length = fx (mask (more 0 (nl x))) 4 := by unfold sm; exact List.drop_left' rfl
  have e2 : (sm x).take x.length = x := by unfold sm; exact List.take_left' rfl
  rw [e1, e2]
  have := fv_four (n := mask (more 0 (nl x))) (mask_lt _) [] (fun y hy => by cases hy)
  rw [List.append_nil] at this
  rw [this]
  simp
theorem sm_body (x : List Int) : (sm x).take ((sm x).length - 4) = x := by rw [sm_len, Nat.add_sub_cancel]; unfold sm; exact List.take_left' rfl
theorem prt_at {a x t : List Int} {most : Nat} (hm : a.length + x.length + 4 ≤ most) : prt (a ++ (sm x ++ t)) a.length x.length most = some (sm x) := by
  unfold prt
  rw [if_neg (by omega), List.drop_left' rfl, List.take_left' (sm_len x)]
theorem okb_idxB : ∀ {bs : List (List EntV)} {pos : Nat}, (∀ c ∈ bs, ∀ e ∈ c, OkE e) → Okb (idxB pos bs)
  | [], pos, h => fun x hx => by cases hx
  | c :: r, pos, h => by
    have hk : Okb (lastK [] c) := by
      have : ∀ (l : List EntV) (prev : List Int), Okb prev → (∀ e ∈ l, OkE e) → Okb (lastK prev l) := fun l => by
        induction l with
        | nil => intro prev hp _; exact hp
        | cons e r ih => intro prev hp ho; exact ih e.key (ho e (by simp)).1 (fun x hx => ho x (by simp [hx]))
      exact this c [] (fun x hx => by cases hx) (h c (by simp))
    exact (okb_lb hk).app ((okb_uv _).app ((okb_uv _).app (okb_idxB fun c' hc => h c' (by simp [hc]))))
theorem lastK_mem : ∀ {c : List EntV} {prev : List Int}, c ≠ [] → ∃ e ∈ c, lastK prev c = e.key
  | [], prev, h => absurd rfl h
  | [e], prev, h => ⟨e, by simp, rfl⟩
  | e :: e' :: r, prev, h => by
    obtain ⟨x, hx, hk⟩ := lastK_mem (c := e' :: r) (prev := e.key) (by simp)
    exact ⟨x, by simp at hx ⊢; exact .inr hx, hk⟩
theorem okb_blk {c : List EntV} (h : ∀ e ∈ c, OkE e) : Okb (blkB c) := (okb_enEs h).app (okb_enTl.app (okb_fx _ _))
/-- The index tells the blocks. -/
theorem rdI_idx : ∀ (bs : List (List EntV)) (n : Nat) (pre post : List Int) (most : Nat), (∀ c ∈ bs, c ≠ [] ∧ ∀ e ∈ c, mayE e = true ∧ OkE e) → bs.length ≤ n → pre.length + (bodT bs).length ≤ most → most ≤ 4611686018427387904 →
    rdI n (pre ++ (bodT bs ++ post)) most (idxB pre.length bs, 0) = (bs.map fun c => sm (blkB c), 0)
  | [], 0, pre, post, most, _, _, _, _ => rfl
  | [], n + 1, pre, post, most, _, _, _, _ => by simp [rdI, idxB]
  | c :: r, 0, pre, post, most, _, hn, _, _ => by simp at hn
  | c :: r, n + 1, pre, post, most, h, hn, hm, h62 => by
    have hc := h c (by simp)
    have hr : ∀ x ∈ r, x ≠ [] ∧ ∀ e ∈ x, mayE e = true ∧ OkE e := fun x hx => h x (by simp [hx])
    obtain ⟨e, hem, hke⟩ := lastK_mem (prev := []) hc.1
    have hk5 : (lastK [] c).length ≤ 512 := by rw [hke]; exact (mayE_ok (hc.2 e hem).1).2.1
    have hko : Okb (lastK [] c) := by rw [hke]; exact (hc.2 e hem).2.1
    have hbl : (bodT (c :: r)).length = (blkB c).length + 4 + (bodT r).length := by rw [bodT_cons, List.length_append, sm_len]
    have hio : Okb (idxB (pre.length + (blkB c).length + 4) r) := okb_idxB fun x hx e he => ((hr x hx).2 e he).2
    have r1 : rdB 512 (idxB pre.length (c :: r), 0) = (lastK [] c, (uv pre.length ++ (uv (blkB c).length ++ idxB (pre.length + (blkB c).length + 4) r), 0)) := rdB_lb hk5 (by omega) hko ((okb_uv _).app ((okb_uv _).app hio))
    have r2 : rdN 9223372036854775808 (uv pre.length ++ (uv (blkB c).length ++ idxB (pre.length + (blkB c).length + 4) r), 0) = (pre.length, (uv (blkB c).length ++ idxB (pre.length + (blkB c).length + 4) r, 0)) := rdN_uv (by omega) (by omega) ((okb_uv _).app hio)
    have r3 : rdN 4611686018427387904 (uv (blkB c).length ++ idxB (pre.length + (blkB c).length + 4) r, 0) = ((blkB c).length, (idxB (pre.length + (blkB c).length + 4) r, 0)) := rdN_uv (by omega) (by omega) hio
    have hp : prt (pre ++ (bodT (c :: r) ++ post)) pre.length (blkB c).length most = some (sm (blkB c)) := by
      rw [bodT_cons, List.append_assoc]
      exact prt_at (by omega)
    have hne : ¬ (idxB pre.length (c :: r)).length = 0 := by
      have := lb_pos (lastK [] c)
      show ¬ (lb (lastK [] c) ++ _).length = 0
      rw [List.length_append]
      omega
    unfold rdI
    rw [if_neg hne, r1]
    simp only
    rw [r2]
    simp only
    rw [r3]
    simp only
    rw [hp]
    simp only [ne_eq, not_true_eq_false, if_false]
    have ih := rdI_idx r n (pre ++ sm (blkB c)) post most hr (by simp at hn; omega) (by rw [List.length_append, sm_len]; omega) h62
    rw [List.length_append, sm_len, List.append_assoc, ← Nat.add_assoc] at ih
    rw [bodT_cons, List.append_assoc, ih]
    rfl
theorem tkBs_blk : ∀ {bs : List (List EntV)}, (∀ c ∈ bs, blkE c = 0 ∧ ∀ e ∈ c, OkE e) → tkBs tkD (bs.map fun c => sm (blkB c)) = (0, bs.flatten)
  | [], _ => rfl
  | c :: r, h => by
    have hc := h c (by simp)
    obtain ⟨t1, t2⟩ := tk_of_blk hc.1 hc.2
    have e : tkD ((sm (blkB c)).take ((sm (blkB c)).length - 4)) = (0, c) := by rw [sm_body]; unfold tkD; rw [t1, t2]
    have ih := tkBs_blk (bs := r) fun x hx => h x (by simp [hx])
    rw [List.map_cons]
    unfold tkBs
    rw [e, ih]
    simp
theorem tblE_ok {l : List EntV} (h : tblE l = 0) : 1 ≤ l.length ∧ l.length ≤ 4000 ∧ (∀ e ∈ l, mayE e = true) ∧ ordE l ∧ (tblB l).length ≤ 4194304 := by
  unfold tblE at h
  split at h
  · cases h
  rename_i h1
  split at h
  · cases h
  rename_i h2
  split at h
  · cases h
  rename_i h3
  split at h
  · cases h
  rename_i h4
  have h2' : l.all mayE = true := by simpa using h2
  have h3' : ordB l = true := by simpa using h3
  have h9 : l.Pairwise (fun a b => ahead a b < 0) := by unfold ordB at h3'; simpa using h3'
  exact ⟨by omega, by omega, fun e he => List.all_eq_true.1 h2' e he, h9, by omega⟩
theorem tbl_len (l : List EntV) : (tblB l).length = (bodT (cutT l)).length + ((idxT l).length + 4) + ((filT l).length + 4) + 32 := by
  unfold tblB
  simp only [List.length_append, sm_len, ft_len]
  have : magT.length = 8 := rfl
  omega
/-- What was built is opened. -/
theorem opT_of_tbl {l : List EntV} (h : tblE l = 0) (ho : ∀ e ∈ l, OkE e) : opT tkD (tblB l) = (0, l) := by
  obtain ⟨h1, h2, h3, h4, h5⟩ := tblE_ok h
  have hblk := cutT_blk h3 h4
  have hbs : ∀ c ∈ cutT l, blkE c = 0 ∧ ∀ e ∈ c, OkE e := fun c hc => ⟨(hblk c hc).1, fun e he => ho e ((hblk c hc).2 e he)⟩
  have hlen := tbl_len l
  have hoi : Okb (idxT l) := okb_idxB fun c hc e he => (hbs c hc).2 e he
  have hof : Okb (filT l) := fil_ok _
  have hoft : Okb (ftT l) := (okb_fx _ _).app ((okb_fx _ _).app ((okb_fx _ _).app ((okb_fx _ _).app (okb_fx _ _))))
  have hmg : Okb magT := fun x hx => by simp [magT] at hx; omega
  obtain ⟨B, hB⟩ : ∃ B, B = bodT (cutT l) := ⟨_, rfl⟩
  obtain ⟨I, hI⟩ : ∃ I, I = idxT l := ⟨_, rfl⟩
  obtain ⟨F, hF⟩ : ∃ F, F = filT l := ⟨_, rfl⟩
  have hb : tblB l = B ++ (sm I ++ (sm F ++ (sm (ftT l) ++ magT))) := by rw [hB, hI, hF]; rfl
  rw [← hB, ← hI, ← hF] at hlen
  have hM : (tblB l).length - 32 = B.length + (I.length + 4) + (F.length + 4) := by omega
  have hfoot : (tblB l).drop ((tblB l).length - 32) = sm (ftT l) ++ magT := by
    rw [hM, hb, ← List.append_assoc, ← List.append_assoc]
    exact List.drop_left' (by simp only [List.length_append, sm_len])
  have hmag : (tblB l).drop ((tblB l).length - 8) = magT := by
    have e : (tblB l).length - 8 = (tblB l).length - 32 + 24 := by omega
    rw [e, ← List.drop_drop, hfoot]
    exact List.drop_left' (by rw [sm_len, ft_len])
  have hft24 : ((tblB l).drop ((tblB l).length - 32)).take 24 = sm (ftT l) := by rw [hfoot]; exact List.take_left' (by rw [sm_len, ft_len])
  have hnum : ftN (tblB l) 0 = B.length ∧ ftN (tblB l) 1 = I.length ∧ ftN (tblB l) 2 = B.length + I.length + 4 ∧ ftN (tblB l) 3 = F.length := by
    have hft : sm (ftT l) ++ magT = fx B.length 4 ++ (fx I.length 4 ++ (fx (B.length + I.length + 4) 4 ++ (fx F.length 4 ++ (fx l.length 4 ++ (fx (mask (more 0 (nl (ftT l)))) 4 ++ magT))))) := by
      rw [hB, hI, hF]
      unfold sm
      conv => lhs; arg 1; arg 1; unfold ftT
      simp only [List.append_assoc]
    have hd : ∀ k, (tblB l).drop ((tblB l).length - 32 + 4 * k) = (sm (ftT l) ++ magT).drop (4 * k) := fun k => by rw [← List.drop_drop, hfoot]
    have hok : ∀ n, Okb (fx n 4) := fun n => okb_fx n 4
    unfold ftN
    rw [hd, hd, hd, hd, hft]
    refine ⟨?_, ?_, ?_, ?_⟩
    · exact fv_four (by omega) _ ((hok _).app ((hok _).app ((hok _).app ((hok _).app ((hok _).app hmg)))))
    · rw [List.drop_left' (by rw [fx_length])]
      exact fv_four (by omega) _ ((hok _).app ((hok _).app ((hok _).app ((hok _).app hmg))))
    · rw [show 4 * 2 = 4 + 4 from rfl, ← List.drop_drop, List.drop_left' (by rw [fx_length]), List.drop_left' (by rw [fx_length])]
      exact fv_four (by omega) _ ((hok _).app ((hok _).app ((hok _).app hmg)))
    · rw [show 4 * 3 = 4 + (4 + 4) from rfl, ← List.drop_drop, List.drop_left' (by rw [fx_length]), ← List.drop_drop, List.drop_left' (by rw [fx_length]), List.drop_left' (by rw [fx_length])]
      exact fv_four (by omega) _ ((hok _).app ((hok _).app hmg))
  have hp1 : prt (tblB l) B.length I.length ((tblB l).length - 32) = some (sm I) := by rw [hb]; exact prt_at (by rw [← hb, hM]; omega)
  have hp2 : prt (tblB l) (B.length + I.length + 4) F.length ((tblB l).length - 32) = some (sm F) := by
    rw [hM, hb, ← List.append_assoc]
    have := prt_at (a := B ++ sm I) (x := F) (t := sm (ftT l) ++ magT) (most := B.length + (I.length + 4) + (F.length + 4)) (by rw [List.length_append, sm_len]; omega)
    rw [List.length_append, sm_len, ← Nat.add_assoc] at this
    exact this
  have hri : rdI (sm I).length (tblB l) B.length (I, 0) = ((cutT l).map fun c => sm (blkB c), 0) := by
    have hcl : (cutT l).length ≤ (sm I).length := by
      have : ∀ (bs : List (List EntV)) (pos : Nat), bs.length ≤ (idxB pos bs).length := fun bs => by
        induction bs with
        | nil => intro pos; simp
        | cons c r ih =>
          intro pos
          have h1 := ih (pos + (blkB c).length + 4)
          have h2 := lb_pos (lastK [] c)
          show r.length + 1 ≤ (lb (lastK [] c) ++ _).length
          simp only [List.length_append]
          omega
      have h2 := this (cutT l) 0
      rw [sm_len, hI]
      unfold idxT
      omega
    have := rdI_idx (cutT l) (sm I).length [] (sm I ++ (sm F ++ (sm (ftT l) ++ magT))) B.length (fun c hc => ⟨cutB_ne l 0 [] c hc, fun e he => ⟨h3 e ((hblk c hc).2 e he), ho e ((hblk c hc).2 e he)⟩⟩) hcl (by rw [hB]; simp) (by omega)
    rw [List.nil_append, ← hB] at this
    rw [hb, hI]
    rw [hI] at this
    exact this
  have hall : ((cutT l).map fun c => sm (blkB c)).all snd = true := by
    rw [List.all_eq_true]
    intro x hx
    obtain ⟨c, hc, rfl⟩ := List.mem_map.1 hx
    exact snd_sm (okb_blk (hbs c hc).2)
  have htk := tkBs_blk hbs
  rw [cutT_flat] at htk
  unfold opT
  rw [if_neg (by omega), if_neg (by rw [hmag]; simp), if_neg (by rw [hft24, snd_sm hoft]; decide), hnum.1, hnum.2.1, hnum.2.2.1, hnum.2.2.2, hp1, hp2]
  simp only
  rw [if_neg (by rw [hI, hF, snd_sm hoi, snd_sm hof]; decide), sm_body, hri]
  simp only
  rw [if_neg (by simp), if_neg (by rw [hall]; decide), htk]
  simp [h]
end Go.Proofs.Ytfecopldepnicaa

/- Tables, on lists: one byte as another one is no table. -/
namespace Go.Proofs.Ytfecopldepnicaa
set_option linter.unusedVariables false
set_option linter.unusedSimpArgs false

theorem fv4_inj {X Y : Nat → Nat} (hX : ∀ j, j < 4 → X j < 256) (hY : ∀ j, j < 4 → Y j < 256) (h : fv X 4 = fv Y 4) : ∀ j, j < 4 → X j = Y j := by
  have a0 := hX 0 (by omega)
  have a1 := hX 1 (by omega)
  have a2 := hX 2 (by omega)
  have a3 := hX 3 (by omega)
  have b0 := hY 0 (by omega)
  have b1 := hY 1 (by omega)
  have b2 := hY 2 (by omega)
  have b3 := hY 3 (by omega)
  simp only [fv] at h
  intro j hj
  have : j = 0 ∨ j = 1 ∨ j = 2 ∨ j = 3 := by omega
  rcases this with rfl | rfl | rfl | rfl <;> omega
theorem okb_setI {xs : List Int} {p : Nat} {u : Int} (h : Okb xs) (hu : 0 ≤ u ∧ u < 256) : Okb (xs.set p u) := fun x hx => by
  rcases List.mem_or_eq_of_mem_set hx with q | q
  · exact h x q
  · rw [q]; exact hu
theorem nl_lt {xs : List Int} (h : Okb xs) : ∀ x ∈ nl xs, x < 256 := fun x hx => by
  obtain ⟨y, hy, rfl⟩ := List.mem_map.1 hx
  have := h y hy
  omega
theorem mask_inj {a b : Nat} (ha : a < 4294967296) (hb : b < 4294967296) (h : mask a = mask b) : a = b := by
  rw [← unmask_mask ha, ← unmask_mask hb, h]
/-- One byte as another one: the sum is not theirs. -/
theorem snd_one {x : List Int} (h : Okb x) {j : Nat} {y : Int} (hy : 0 ≤ y ∧ y < 256) (hj : j < (sm x).length) (hne : (sm x)[j] ≠ y) : snd ((sm x).set j y) = false := by
  have hl : ((sm x).set j y).length = x.length + 4 := by rw [List.length_set, sm_len]
  unfold snd
  rw [hl, Nat.add_sub_cancel]
  refine decide_eq_false fun e => ?_
  by_cases q : j < x.length
  · have e1 : (sm x).set j y = x.set j y ++ fx (mask (more 0 (nl x))) 4 := by unfold sm; rw [List.set_append_left _ _ q]
    rw [e1, List.drop_left' (by rw [List.length_set]), List.take_left' (by rw [List.length_set])] at e
    have h4 := fv_four (n := mask (more 0 (nl x))) (mask_lt _) [] (fun z hz => by cases hz)
    rw [List.append_nil] at h4
    rw [h4] at e
    have hx : x = x.take j ++ (x[j] :: x.drop (j + 1)) := by rw [← List.drop_eq_getElem_cons q, List.take_append_drop]
    have hs : x.set j y = x.take j ++ (y :: x.drop (j + 1)) := by rw [List.set_eq_take_append_cons_drop, if_pos q]
    have hp : Okb (x.take j) := fun z hz => h z (List.mem_of_mem_take hz)
    have hq : Okb (x.drop (j + 1)) := fun z hz => h z (List.mem_of_mem_drop hz)
    have n1 : nl x = nl (x.take j) ++ ([x[j].toNat] ++ nl (x.drop (j + 1))) := (congrArg nl hx).trans (by unfold nl; rw [List.map_append, List.map_cons]; rfl)
    have n2 : nl (x.set j y) = nl (x.take j) ++ ([y.toNat] ++ nl (x.drop (j + 1))) := by rw [hs]; simp [nl]
    have hb := h x[j] (List.getElem_mem q)
    have hm := mask_inj (more_lt (by decide) (nl_lt h)) (more_lt (by decide) (nl_lt (okb_setI h hy))) e
    rw [n1, n2] at hm
    have := (more_unlike (nl (x.take j)) [x[j].toNat] [y.toNat] (nl (x.drop (j + 1))) 0 (by decide) rfl (by simp) (nl_lt hp) (fun z hz => by rw [List.mem_singleton.1 hz]; omega) (fun z hz => by rw [List.mem_singleton.1 hz]; omega) (nl_lt hq)).1 hm
    simp only [List.cons.injEq, and_true] at this
    have hxj : (sm x)[j] = x[j] := by unfold sm; exact List.getElem_append_left q
    rw [hxj] at hne
    omega
  · have e1 : (sm x).set j y = x ++ (fx (mask (more 0 (nl x))) 4).set (j - x.length) y := by unfold sm; rw [List.set_append_right _ _ (by omega)]
    rw [e1, List.drop_left' rfl, List.take_left' rfl] at e
    have h4 := fv_four (n := mask (more 0 (nl x))) (mask_lt _) [] (fun z hz => by cases hz)
    rw [List.append_nil] at h4
    have e' := e.trans h4.symm
    have hk : j - x.length < 4 := by rw [sm_len] at hj; omega
    have hxj : (sm x)[j]? = (fx (mask (more 0 (nl x))) 4)[j - x.length]? := by unfold sm; exact List.getElem?_append_right (by omega)
    have ok1 := okb_fx (mask (more 0 (nl x))) 4
    have hfl := fx_length (mask (more 0 (nl x))) 4
    generalize fx (mask (more 0 (nl x))) 4 = Z at hxj e' ok1 hfl
    rw [List.getElem?_eq_getElem hj, List.getElem?_eq_getElem (by rw [hfl]; exact hk)] at hxj
    simp only [Option.some.injEq] at hxj
    rw [hxj] at hne
    have ok2 := okb_setI (p := j - x.length) ok1 hy
    have hlt : ∀ {zs : List Int}, Okb zs → zs.length = 4 → ∀ k, k < 4 → xof zs k < 256 := fun {zs} ho hz k hk => by
      have h1 := xof_at (k := k) ho (by omega)
      have h2 := ho _ (List.getElem_mem (l := zs) (n := k) (by omega))
      omega
    have h5 := fv4_inj (hlt ok2 (by rw [List.length_set, hfl])) (hlt ok1 hfl) e' (j - x.length) hk
    have g1 := xof_at (k := j - x.length) ok2 (by rw [List.length_set, hfl]; exact hk)
    have g2 := xof_at (k := j - x.length) ok1 (by rw [hfl]; exact hk)
    rw [List.getElem_set_self] at g1
    rw [g2, ← h5, ← g1] at hne
    exact hne rfl
/-- Of rows one behind the other one byte is set. -/
theorem flat_set : ∀ (xss : List (List Int)) (i : Nat) (y : Int), i < xss.flatten.length → ∃ k j, ∃ (hk : k < xss.length) (hj : j < xss[k].length) (hi : i < xss.flatten.length), xss.flatten.set i y = (xss.set k (xss[k].set j y)).flatten ∧ xss.flatten[i] = xss[k][j]
  | [], i, y, h => by simp at h
  | x :: r, i, y, h => by
    by_cases q : i < x.length
    · refine ⟨0, i, by simp, q, h, ?_, ?_⟩
      · simp only [List.flatten_cons, List.set_cons_zero, List.getElem_cons_zero]
        exact List.set_append_left _ _ q
      · simp only [List.flatten_cons, List.getElem_cons_zero]
        exact List.getElem_append_left q
    · rw [List.flatten_cons, List.length_append] at h
      obtain ⟨k, j, hk, hj, hi, e1, e2⟩ := flat_set r (i - x.length) y (by omega)
      refine ⟨k + 1, j, by simp; exact hk, by simpa using hj, by rw [List.flatten_cons, List.length_append]; omega, ?_, ?_⟩
      · simp only [List.flatten_cons, List.set_cons_succ, List.getElem_cons_succ]
        rw [List.set_append_right _ _ (by omega), e1]
      · simp only [List.flatten_cons, List.getElem_cons_succ]
        rw [List.getElem_append_right (by omega)]
        exact e2
theorem prt_any {a y t : List Int} {n most : Nat} (hy : y.length = n + 4) (hm : a.length + n + 4 ≤ most) : prt (a ++ (y ++ t)) a.length n most = some y := by
  unfold prt
  rw [if_neg (by omega), List.drop_left' rfl, List.take_left' hy]
/-- The index tells blocks of that length, whatever their bytes are. -/
theorem rdI_len : ∀ (bs : List (List EntV)) (ys : List (List Int)) (n : Nat) (pre post : List Int) (most : Nat), (∀ c ∈ bs, c ≠ [] ∧ ∀ e ∈ c, mayE e = true ∧ OkE e) → (ys.map List.length = bs.map fun c => (blkB c).length + 4) → bs.length ≤ n → pre.length + ys.flatten.length ≤ most → most ≤ 4611686018427387904 →
    rdI n (pre ++ (ys.flatten ++ post)) most (idxB pre.length bs, 0) = (ys, 0)
  | [], [], 0, pre, post, most, _, _, _, _, _ => rfl
  | [], [], n + 1, pre, post, most, _, _, _, _, _ => by simp [rdI, idxB]
  | [], y :: ys, _, pre, post, most, _, hy, _, _, _ => by simp at hy
  | c :: r, [], _, pre, post, most, _, hy, _, _, _ => by simp at hy
  | c :: r, y :: ys, 0, pre, post, most, _, _, hn, _, _ => by simp at hn
  | c :: r, y :: ys, n + 1, pre, post, most, h, hy, hn, hm, h62 => by
    simp only [List.map_cons, List.cons.injEq] at hy
    have hc := h c (by simp)
    have hr : ∀ x ∈ r, x ≠ [] ∧ ∀ e ∈ x, mayE e = true ∧ OkE e := fun x hx => h x (by simp [hx])
    obtain ⟨e, hem, hke⟩ := lastK_mem (prev := []) hc.1
    have hk5 : (lastK [] c).length ≤ 512 := by rw [hke]; exact (mayE_ok (hc.2 e hem).1).2.1
    have hko : Okb (lastK [] c) := by rw [hke]; exact (hc.2 e hem).2.1
    have hbl : (y :: ys).flatten.length = (blkB c).length + 4 + ys.flatten.length := by rw [List.flatten_cons, List.length_append, hy.1]
    have hio : Okb (idxB (pre.length + (blkB c).length + 4) r) := okb_idxB fun x hx e he => ((hr x hx).2 e he).2
    have r1 : rdB 512 (idxB pre.length (c :: r), 0) = (lastK [] c, (uv pre.length ++ (uv (blkB c).length ++ idxB (pre.length + (blkB c).length + 4) r), 0)) := rdB_lb hk5 (by omega) hko ((okb_uv _).app ((okb_uv _).app hio))
    have r2 : rdN 9223372036854775808 (uv pre.length ++ (uv (blkB c).length ++ idxB (pre.length + (blkB c).length + 4) r), 0) = (pre.length, (uv (blkB c).length ++ idxB (pre.length + (blkB c).length + 4) r, 0)) := rdN_uv (by omega) (by omega) ((okb_uv _).app hio)
    have r3 : rdN 4611686018427387904 (uv (blkB c).length ++ idxB (pre.length + (blkB c).length + 4) r, 0) = ((blkB c).length, (idxB (pre.length + (blkB c).length + 4) r, 0)) := rdN_uv (by omega) (by omega) hio
    have hp : prt (pre ++ ((y :: ys).flatten ++ post)) pre.length (blkB c).length most = some y := by
      rw [List.flatten_cons, List.append_assoc]
      exact prt_any hy.1 (by omega)
    have hne : ¬ (idxB pre.length (c :: r)).length = 0 := by
      have := lb_pos (lastK [] c)
      show ¬ (lb (lastK [] c) ++ _).length = 0
      rw [List.length_append]
      omega
    unfold rdI
    rw [if_neg hne, r1]
    simp only
    rw [r2]
    simp only
    rw [r3]
    simp only
    rw [hp]
    simp only [ne_eq, not_true_eq_false, if_false]
    have ih := rdI_len r ys n (pre ++ y) post most hr hy.2 (by simp at hn; omega) (by rw [List.length_append, hy.1]; omega) h62
    rw [List.length_append, hy.1, List.append_assoc, ← Nat.add_assoc] at ih
    rw [List.flatten_cons, List.append_assoc, ih]
/-- What Open asks of the end. -/
theorem opT_head {tk : List Int → Nat × List EntV} {A T M : List Int} (hT : T.length = 24) (hM : M.length = 8) (h : (opT tk (A ++ (T ++ M))).1 = 0) : M = magT ∧ snd T = true := by
  have hl : (A ++ (T ++ M)).length = A.length + 32 := by simp only [List.length_append]; omega
  have d1 : (A ++ (T ++ M)).drop ((A ++ (T ++ M)).length - 32) = T ++ M := by rw [hl, Nat.add_sub_cancel]; exact List.drop_left' rfl
  have d2 : (A ++ (T ++ M)).drop ((A ++ (T ++ M)).length - 8) = M := by
    have e : (A ++ (T ++ M)).length - 8 = (A ++ (T ++ M)).length - 32 + 24 := by omega
    rw [e, ← List.drop_drop, d1]
    exact List.drop_left' hT
  unfold opT at h
  rw [if_neg (by omega), d2, d1, List.take_left' hT] at h
  split at h
  · cases h
  rename_i z1
  split at h
  · cases h
  rename_i z2
  exact ⟨by simpa using z1, by simpa using z2⟩
theorem ftN_foot {l : List EntV} {A : List Int} (h5 : (tblB l).length ≤ 4194304) (h4 : l.length ≤ 4000) : ftN (A ++ (sm (ftT l) ++ magT)) 0 = (bodT (cutT l)).length ∧ ftN (A ++ (sm (ftT l) ++ magT)) 1 = (idxT l).length ∧ ftN (A ++ (sm (ftT l) ++ magT)) 2 = (bodT (cutT l)).length + (idxT l).length + 4 ∧ ftN (A ++ (sm (ftT l) ++ magT)) 3 = (filT l).length := by
  have hlen := tbl_len l
  have hmg : Okb magT := fun x hx => by simp [magT] at hx; omega
  have hl : (A ++ (sm (ftT l) ++ magT)).length = A.length + 32 := by simp only [List.length_append, sm_len, ft_len]; rfl
  have hfoot : (A ++ (sm (ftT l) ++ magT)).drop ((A ++ (sm (ftT l) ++ magT)).length - 32) = sm (ftT l) ++ magT := by rw [hl, Nat.add_sub_cancel]; exact List.drop_left' rfl
  have hft : sm (ftT l) ++ magT = fx (bodT (cutT l)).length 4 ++ (fx (idxT l).length 4 ++ (fx ((bodT (cutT l)).length + (idxT l).length + 4) 4 ++ (fx (filT l).length 4 ++ (fx l.length 4 ++ (fx (mask (more 0 (nl (ftT l)))) 4 ++ magT))))) := by
    unfold sm
    conv => lhs; arg 1; arg 1; unfold ftT
    simp only [List.append_assoc]
  have hd : ∀ k, (A ++ (sm (ftT l) ++ magT)).drop ((A ++ (sm (ftT l) ++ magT)).length - 32 + 4 * k) = (sm (ftT l) ++ magT).drop (4 * k) := fun k => by rw [← List.drop_drop, hfoot]
  have hok : ∀ n, Okb (fx n 4) := fun n => okb_fx n 4
  unfold ftN
  rw [hd, hd, hd, hd, hft]
  refine ⟨?_, ?_, ?_, ?_⟩
  · exact fv_four (by omega) _ ((hok _).app ((hok _).app ((hok _).app ((hok _).app ((hok _).app hmg)))))
  · rw [List.drop_left' (by rw [fx_length])]
    exact fv_four (by omega) _ ((hok _).app ((hok _).app ((hok _).app ((hok _).app hmg))))
  · rw [show 4 * 2 = 4 + 4 from rfl, ← List.drop_drop, List.drop_left' (by rw [fx_length]), List.drop_left' (by rw [fx_length])]
    exact fv_four (by omega) _ ((hok _).app ((hok _).app ((hok _).app hmg)))
  · rw [show 4 * 3 = 4 + (4 + 4) from rfl, ← List.drop_drop, List.drop_left' (by rw [fx_length]), ← List.drop_drop, List.drop_left' (by rw [fx_length]), List.drop_left' (by rw [fx_length])]
    exact fv_four (by omega) _ ((hok _).app ((hok _).app hmg))
/-- What Open asks of the parts, where the end is a table's. -/
theorem opT_parts {tk : List Int → Nat × List EntV} {l : List EntV} {B' I' F' : List Int} (h5 : (tblB l).length ≤ 4194304) (h4 : l.length ≤ 4000) (hB : B'.length = (bodT (cutT l)).length) (hI : I'.length = (idxT l).length + 4) (hF : F'.length = (filT l).length + 4)
    (h : (opT tk (B' ++ (I' ++ (F' ++ (sm (ftT l) ++ magT))))).1 = 0) : snd I' = true ∧ snd F' = true ∧ (rdI I'.length (B' ++ (I' ++ (F' ++ (sm (ftT l) ++ magT)))) B'.length (I'.take (I'.length - 4), 0)).1.all snd = true := by
  obtain ⟨c, hc⟩ : ∃ c, c = B' ++ (I' ++ (F' ++ (sm (ftT l) ++ magT))) := ⟨_, rfl⟩
  have hc2 : c = (B' ++ (I' ++ F')) ++ (sm (ftT l) ++ magT) := by rw [hc]; simp only [List.append_assoc]
  obtain ⟨n0, n1, n2, n3⟩ := ftN_foot (l := l) (A := B' ++ (I' ++ F')) h5 h4
  rw [← hc2, ← hB] at n0 n2
  rw [← hc2] at n1 n3
  have hlc : c.length = B'.length + I'.length + F'.length + 32 := by rw [hc2]; simp only [List.length_append, sm_len, ft_len]; have : magT.length = 8 := rfl; omega
  have hp1 : prt c B'.length (idxT l).length (c.length - 32) = some I' := by rw [hc]; exact prt_any hI (by rw [← hc]; omega)
  have hp2 : prt c (B'.length + (idxT l).length + 4) (filT l).length (c.length - 32) = some F' := by
    have e : c = (B' ++ I') ++ (F' ++ (sm (ftT l) ++ magT)) := by rw [hc]; simp only [List.append_assoc]
    have := prt_any (a := B' ++ I') (t := sm (ftT l) ++ magT) (most := c.length - 32) hF (by rw [List.length_append]; omega)
    rw [← e, List.length_append, hI, ← Nat.add_assoc] at this
    exact this
  rw [← hc] at h ⊢
  unfold opT at h
  split at h
  · cases h
  split at h
  · cases h
  split at h
  · cases h
  rw [n0, n1, n2, n3, hp1, hp2] at h
  simp only at h
  split at h
  · cases h
  rename_i z4
  split at h
  · cases h
  split at h
  · cases h
  rename_i z6
  simp only [not_or, Bool.not_eq_false] at z4 z6
  exact ⟨z4.1, z4.2, z6⟩
/-- One byte as another one: no table. -/
theorem opT_one {tk : List Int → Nat × List EntV} {l : List EntV} (h : tblE l = 0) (ho : ∀ e ∈ l, OkE e) {i : Nat} {y : Int} (hy : 0 ≤ y ∧ y < 256) (hi : i < (tblB l).length) (hne : (tblB l)[i] ≠ y) : (opT tk ((tblB l).set i y)).1 ≠ 0 := fun h0 => by
  obtain ⟨h1, h2, h3, h4, h5⟩ := tblE_ok h
  have hblk := cutT_blk h3 h4
  have hoi : Okb (idxT l) := okb_idxB fun c hc e he => ho e ((hblk c hc).2 e he)
  have hof : Okb (filT l) := fil_ok _
  have hoft : Okb (ftT l) := (okb_fx _ _).app ((okb_fx _ _).app ((okb_fx _ _).app ((okb_fx _ _).app (okb_fx _ _))))
  have hlen := tbl_len l
  have hb : tblB l = bodT (cutT l) ++ (sm (idxT l) ++ (sm (filT l) ++ (sm (ftT l) ++ magT))) := rfl
  have hml : magT.length = 8 := rfl
  by_cases q1 : i < (bodT (cutT l)).length
  · have e : (tblB l).set i y = (bodT (cutT l)).set i y ++ (sm (idxT l) ++ (sm (filT l) ++ (sm (ftT l) ++ magT))) := by rw [hb, List.set_append_left _ _ q1]
    rw [e] at h0
    obtain ⟨_, _, hal⟩ := opT_parts h5 h2 (by rw [List.length_set]) (sm_len _) (sm_len _) h0
    obtain ⟨k, j, hk, hj, hii, e1, e2⟩ := flat_set ((cutT l).map fun c => sm (blkB c)) i y q1
    have hbt : bodT (cutT l) = ((cutT l).map fun c => sm (blkB c)).flatten := rfl
    have hkc : k < (cutT l).length := by simpa using hk
    have hmem := List.getElem_mem hkc
    rw [sm_body, List.length_set] at hal
    have hri := rdI_len (cutT l) (((cutT l).map fun c => sm (blkB c)).set k ((((cutT l).map fun c => sm (blkB c))[k]).set j y)) (sm (idxT l)).length [] (sm (idxT l) ++ (sm (filT l) ++ (sm (ftT l) ++ magT))) (bodT (cutT l)).length (fun c hc => ⟨cutB_ne l 0 [] c hc, fun e he => ⟨h3 e ((hblk c hc).2 e he), ho e ((hblk c hc).2 e he)⟩⟩) (by
        rw [List.map_set, List.length_set]
        apply List.ext_getElem
        · simp
        · intro m hm1 hm2
          rw [List.getElem_set]
          split
          · rename_i z; subst z; simp [sm_len]
          · simp [sm_len]) (by
        have : ∀ (bs : List (List EntV)) (pos : Nat), bs.length ≤ (idxB pos bs).length := fun bs => by
          induction bs with
          | nil => intro pos; simp
          | cons c r ih =>
            intro pos
            have h1 := ih (pos + (blkB c).length + 4)
            have h2 := lb_pos (lastK [] c)
            show r.length + 1 ≤ (lb (lastK [] c) ++ _).length
            simp only [List.length_append]
            omega
        have h2 := this (cutT l) 0
        rw [sm_len]
        unfold idxT
        omega) (by rw [← e1, List.length_set, ← hbt]; simp) (by omega)
    rw [List.nil_append, ← e1, ← hbt] at hri
    have hri2 : rdI (sm (idxT l)).length ((bodT (cutT l)).set i y ++ (sm (idxT l) ++ (sm (filT l) ++ (sm (ftT l) ++ magT)))) (bodT (cutT l)).length (idxT l, 0) = _ := hri
    rw [hri2] at hal
    simp only at hal
    have hin : ((((cutT l).map fun c => sm (blkB c))[k]).set j y) ∈ ((cutT l).map fun c => sm (blkB c)).set k ((((cutT l).map fun c => sm (blkB c))[k]).set j y) := List.mem_set hk _
    have hs := List.all_eq_true.1 hal _ hin
    have hx : ((cutT l).map fun c => sm (blkB c))[k] = sm (blkB (cutT l)[k]) := by simp
    have hne2 : (sm (blkB (cutT l)[k]))[j]'(by rw [← hx]; exact hj) ≠ y := by
      intro z
      apply hne
      have e3 : (tblB l)[i] = (bodT (cutT l))[i] := by
        have : (bodT (cutT l) ++ (sm (idxT l) ++ (sm (filT l) ++ (sm (ftT l) ++ magT))))[i]'(by rw [← hb]; exact hi) = _ := List.getElem_append_left q1
        exact this
      rw [e3]
      have e4 : (bodT (cutT l))[i] = ((cutT l).map fun c => sm (blkB c)).flatten[i] := rfl
      rw [e4, e2, ← z]
      simp only [hx]
    have := snd_one (okb_blk fun e he => ho e ((hblk _ hmem).2 e he)) hy (by rw [← hx]; exact hj) hne2
    rw [hx] at hs
    rw [this] at hs
    cases hs
  · have e : (tblB l).set i y = bodT (cutT l) ++ (sm (idxT l) ++ (sm (filT l) ++ (sm (ftT l) ++ magT))).set (i - (bodT (cutT l)).length) y := by rw [hb, List.set_append_right _ _ (by omega)]
    have g1 : (tblB l)[i]? = (sm (idxT l) ++ (sm (filT l) ++ (sm (ftT l) ++ magT)))[i - (bodT (cutT l)).length]? := by rw [hb]; exact List.getElem?_append_right (by omega)
    rw [List.getElem?_eq_getElem hi] at g1
    by_cases q2 : i - (bodT (cutT l)).length < (sm (idxT l)).length
    · rw [List.set_append_left _ _ q2] at e
      rw [e] at h0
      obtain ⟨z1, _, _⟩ := opT_parts h5 h2 rfl (by rw [List.length_set, sm_len]) (sm_len _) h0
      rw [List.getElem?_append_left q2, List.getElem?_eq_getElem q2] at g1
      simp only [Option.some.injEq] at g1
      rw [snd_one hoi hy q2 (by rw [← g1]; exact hne)] at z1
      cases z1
    · rw [List.set_append_right _ _ (by omega)] at e
      rw [List.getElem?_append_right (by omega)] at g1
      by_cases q3 : i - (bodT (cutT l)).length - (sm (idxT l)).length < (sm (filT l)).length
      · rw [List.set_append_left _ _ q3] at e
        rw [e] at h0
        obtain ⟨_, z1, _⟩ := opT_parts h5 h2 rfl (sm_len _) (by rw [List.length_set, sm_len]) h0
        rw [List.getElem?_append_left q3, List.getElem?_eq_getElem q3] at g1
        simp only [Option.some.injEq] at g1
        rw [snd_one hof hy q3 (by rw [← g1]; exact hne)] at z1
        cases z1
      · rw [List.set_append_right _ _ (by omega)] at e
        rw [List.getElem?_append_right (by omega)] at g1
        by_cases q4 : i - (bodT (cutT l)).length - (sm (idxT l)).length - (sm (filT l)).length < (sm (ftT l)).length
        · rw [List.set_append_left _ _ q4, ← List.append_assoc, ← List.append_assoc] at e
          rw [e] at h0
          have z1 := (opT_head (by rw [List.length_set, sm_len, ft_len]) hml h0).2
          rw [List.getElem?_append_left q4, List.getElem?_eq_getElem q4] at g1
          simp only [Option.some.injEq] at g1
          rw [snd_one hoft hy q4 (by rw [← g1]; exact hne)] at z1
          cases z1
        · rw [List.set_append_right _ _ (by omega), ← List.append_assoc, ← List.append_assoc] at e
          rw [e] at h0
          have z1 := (opT_head (by rw [sm_len, ft_len]) (by rw [List.length_set, hml]) h0).1
          rw [List.getElem?_append_right (by omega)] at g1
          have q5 : i - (bodT (cutT l)).length - (sm (idxT l)).length - (sm (filT l)).length - (sm (ftT l)).length < magT.length := by
            rw [hml, sm_len, sm_len, sm_len, ft_len]
            omega
          rw [List.getElem?_eq_getElem q5] at g1
          simp only [Option.some.injEq] at g1
          apply hne
          rw [g1]
          have := congrArg (fun L => L[i - (bodT (cutT l)).length - (sm (idxT l)).length - (sm (filT l)).length - (sm (ftT l)).length]?) z1
          rw [List.getElem?_set_self q5, List.getElem?_eq_getElem q5] at this
          simpa using this.symm
end Go.Proofs.Ytfecopldepnicaa

/- Tables, on lists: how long they are. -/
namespace Go.Proofs.Ytfecopldepnicaa
set_option linter.unusedVariables false
set_option linter.unusedSimpArgs false

theorem enE_some {n : Nat} {e : EntV} (h : mayE e = true) (hn : n ≤ 512) : (enE n e).length ≤ e.key.length + e.val.length + 61 := by
  obtain ⟨h1, h2, h3, h4, h5, h6, h7, h8⟩ := mayE_ok h
  have a1 := uv_len64 (n := n) (by omega)
  have a2 := uv_len64 (n := (e.key.drop n).length) (by rw [List.length_drop]; omega)
  have a3 := uv_len64 (n := e.seq.toNat) (by omega)
  have a4 := uv_len64 (n := e.till.toNat) (by omega)
  have a5 := uv_len64 (n := e.val.length) (by omega)
  unfold enE
  simp only [List.length_append, lb_len]
  rw [List.length_drop] at a2 ⊢
  split
  · simp; omega
  · simp only [List.length_cons, List.length_append, lb_len]; omega
theorem enEs_some {M : Nat} : ∀ (l : List EntV) (i : Nat) (prev : List Int), (∀ e ∈ l, mayE e = true ∧ e.key.length + e.val.length + 61 ≤ M) → (enEs i prev l).length ≤ M * l.length
  | [], i, prev, h => by simp [enEs]
  | e :: r, i, prev, h => by
    have he := h e (by simp)
    have hs := (shI_ok i e.key prev).2.1
    have hk := (mayE_ok he.1).2.1
    have h1 := enE_some (n := shI i e.key prev) he.1 (by omega)
    have h2 := enEs_some (M := M) r (i + 1) e.key fun x hx => h x (by simp [hx])
    unfold enEs
    rw [List.length_append, List.length_cons, Nat.mul_add, Nat.mul_one]
    omega
theorem blk_some {M : Nat} {c : List EntV} (h : ∀ e ∈ c, mayE e = true ∧ e.key.length + e.val.length + 61 ≤ M) : (blkB c).length ≤ M * c.length + 4 * c.length + 4 := by
  have h1 := enEs_some (M := M) c 0 [] h
  have h2 := enTl_len c 0 0 []
  have h3 := eig_le c 0
  unfold blkB
  simp only [List.length_append, fx_length]
  omega
theorem parts_some {M : Nat} : ∀ (bs : List (List EntV)), (∀ c ∈ bs, c ≠ [] ∧ ∀ e ∈ c, mayE e = true ∧ e.key.length + e.val.length + 61 ≤ M) → (bodT bs).length ≤ (M + 12) * bs.flatten.length
  | [], h => by simp [bodT]
  | c :: r, h => by
    have hc := h c (by simp)
    have h1 := blk_some hc.2
    have h2 := parts_some (M := M) r fun x hx => h x (by simp [hx])
    have h3 : 1 ≤ c.length := by
      cases c with
      | nil => exact absurd rfl hc.1
      | cons e r => simp
    rw [bodT_cons, List.length_append, sm_len, List.flatten_cons, List.length_append, Nat.mul_add]
    have h4 : (M + 12) * c.length = M * c.length + 12 * c.length := Nat.add_mul _ _ _
    omega
theorem idx_some {M : Nat} : ∀ (bs : List (List EntV)) (pos : Nat), (∀ c ∈ bs, c ≠ [] ∧ ∀ e ∈ c, mayE e = true ∧ e.key.length + e.val.length + 61 ≤ M) → (idxB pos bs).length ≤ (M + 30) * bs.flatten.length ∨ 18446744073709551616 ≤ pos + (bodT bs).length
  | [], pos, h => .inl (by simp [idxB])
  | c :: r, pos, h => by
    have hc := h c (by simp)
    obtain ⟨e, hem, hke⟩ := lastK_mem (prev := []) hc.1
    have hk := hc.2 e hem
    have hk5 := (mayE_ok hk.1).2.1
    have h3 : 1 ≤ c.length := by
      cases c with
      | nil => exact absurd rfl hc.1
      | cons e r => simp
    rw [bodT_cons, List.length_append, sm_len]
    by_cases q : 18446744073709551616 ≤ pos + ((blkB c).length + 4 + (bodT r).length)
    · exact .inr q
    · rcases idx_some (M := M) r (pos + (blkB c).length + 4) (fun x hx => h x (by simp [hx])) with z | z
      · refine .inl ?_
        have a1 := uv_len64 (n := pos) (by omega)
        have a2 := uv_len64 (n := (blkB c).length) (by omega)
        have a3 := uv_len64 (n := (lastK [] c).length) (by rw [hke]; omega)
        unfold idxB
        rw [List.length_append, List.length_append, List.length_append, lb_len, List.flatten_cons, List.length_append, Nat.mul_add]
        rw [hke] at a3 ⊢
        have h4 : M + 30 ≤ (M + 30) * c.length := Nat.le_mul_of_pos_right _ h3
        omega
      · exact .inr (by omega)
theorem kys_len (l : List EntV) : (kys l).length ≤ l.length := by
  have : ∀ (l : List EntV) (out : List (List Int)), (l.foldl ky1 out).length ≤ out.length + l.length := fun l => by
    induction l with
    | nil => intro out; simp
    | cons e r ih =>
      intro out
      have h1 := ih (ky1 out e)
      have h2 : (ky1 out e).length ≤ out.length + 1 := by
        unfold ky1
        split
        · simp
        · omega
      rw [List.foldl_cons, List.length_cons]
      omega
  have := this l []
  unfold kys
  simpa using this
/-- How long a table is at most. -/
theorem tbl_some {l : List EntV} {M : Nat} (h : ∀ e ∈ l, mayE e = true ∧ e.key.length + e.val.length + 61 ≤ M) (hM : M ≤ 100000) (hl : l.length ≤ 4000) : (tblB l).length ≤ (2 * M + 44) * l.length + 100 := by
  have hbs : ∀ c ∈ cutT l, c ≠ [] ∧ ∀ e ∈ c, mayE e = true ∧ e.key.length + e.val.length + 61 ≤ M := fun c hc => ⟨cutB_ne l 0 [] c hc, fun e he => h e (by
    have hs := List.sublist_flatten_of_mem hc
    rw [cutT_flat] at hs
    exact hs.subset he)⟩
  have h1 := parts_some (cutT l) hbs
  have h2 := idx_some (cutT l) 0 hbs
  rw [cutT_flat] at h1 h2
  have hmm : (M + 12) * l.length ≤ 100012 * 4000 := Nat.mul_le_mul (by omega) hl
  have h2' : (idxT l).length ≤ (M + 30) * l.length := by
    rcases h2 with z | z
    · exact z
    · omega
  have h3 := kys_len l
  have h4 : (filT l).length = fsz (kys l).length := fil_len _
  have h5 : fsz (kys l).length ≤ 2 * l.length + 9 := by unfold fsz; omega
  rw [tbl_len]
  have e1 : (2 * M + 44) * l.length = (M + 12) * l.length + (M + 30) * l.length + 2 * l.length := by rw [← Nat.add_mul, ← Nat.add_mul]; congr 1; omega
  omega
theorem tblE_srt {l : List EntV} (h1 : l.length ≤ 400) (h2 : ∀ e ∈ l, mayE e = true) (h3 : ordE l) : tblE l = if l.length = 0 then 13 else 0 := by
  unfold tblE
  by_cases q : l.length = 0
  · rw [if_pos (.inl q), if_pos q]
  · rw [if_neg (by omega), if_neg q, if_neg (by rw [List.all_eq_true.2 h2]; decide), if_neg (by unfold ordB; rw [decide_eq_true (show l.Pairwise _ from h3)]; decide), if_neg]
    have := tbl_some (l := l) (M := 2621) (fun e he => ⟨h2 e he, by have := mayE_ok (h2 e he); omega⟩) (by omega) (by omega)
    have hm : (2 * 2621 + 44) * l.length ≤ 5286 * 400 := Nat.mul_le_mul (by omega) h1
    omega
end Go.Proofs.Ytfecopldepnicaa

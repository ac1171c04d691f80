import Derived.Test.YtligofmcmjblpaaGreatPk17
import Derived.Test.YtligofmcmjblpaaGreatPk36
import Derived.Test.YtligofmcmjblpaaGreatPk42
/- The landed disk: Copy. -/
namespace Go.Proofs.YtligofmcmjblpaaGreat
open Go.RowKit Go.Maps
set_option linter.unusedVariables false
set_option linter.unusedSimpArgs false

/-- The names of the copy lie there. -/
structure S1 (w w3 : World) (q nb1 : Nat) (σ : DS) (A : Nat → Prop) (loc : Nat → Nat) (nv sv cv : Value) : Prop where
  ex : ∃ loc3 dv3, TW w w3 (w.heap.size + 1) w.heap.size A loc σ.fl (fun j => ∃ e ∈ σ.dir, e.2 = j) loc3 dv3 ∧ MapL w3 nb1 loc3 σ.dir
  dk : DkL w3 q σ.room nv sv cv σ.c
  l0 : w.heap.size + 2 ≤ q
  l1 : w.heap.size + 2 ≤ nb1
/-- Its sure names too. -/
structure S3 (w w5 : World) (q nb1 nb2 : Nat) (σ : DS) (A : Nat → Prop) (loc : Nat → Nat) (sv cv : Value) (sd : List Ent) : Prop where
  ex : ∃ loc3 dv3, TW w w5 (w.heap.size + 1) w.heap.size A loc σ.fl (fun j => D2 σ.dir sd j) loc3 dv3 ∧ MapL w5 nb1 loc3 σ.dir ∧ MapL w5 nb2 loc3 sd
  dk : DkL w5 q σ.room (.map (some nb1)) sv cv σ.c
  l0 : w.heap.size + 2 ≤ q
  l1 : w.heap.size + 2 ≤ nb1
  l2 : w.heap.size + 2 ≤ nb2
  ne : nb1 ≠ nb2
section
variable {w w3 w5 : World} {p q nb1 nb2 : Nat} {σ : DS} {F A : Nat → Prop} {loc : Nat → Nat} {dv : Nat → Value} {nv sv cv : Value} {sd : List Ent} {ch : List Chg}
theorem LAt.sdMem (h : LAt w p σ F A loc dv nv sv cv sd ch) : sd ∈ σ.was := by rw [h.was]; exact hist_head sd ch
theorem copy_one (h : LAt w p σ F A loc dv nv sv cv sd ch) (hi : Inv σ) (W1 : World) (hW : W1 = (w.alloc (.map #[] 0)).alloc (.cells #[.map (some w.heap.size)] 103 (0, 0))) :
    Calls Tryz.prog 49 #[nv, .func (.func 76) #[] #[.pointer (some ⟨w.heap.size + 1, 0, none⟩)]] (W1.alloc (.cells #[.int .i64 σ.room, nv, sv, cv, .int .i64 σ.c.calls, .bool σ.c.off, .int .i64 σ.c.fA, .int .i64 σ.c.fC, .int .i64 σ.c.tA, .int .i64 σ.c.fails] 51 (0, 0))) fun e w3 => ∃ nb1, e = .returned (.map (some nb1)) ∧ S1 w w3 W1.heap.size nb1 σ A loc nv sv cv := by
  have hs1 : W1.heap.size = w.heap.size + 2 := by rw [hW]; simp
  have hb1 : Below w.heap.size w W1 := by rw [hW]; exact ((Below.refl _ _).alloc (Nat.le_refl _) _).alloc (by simp) _
  have e1 : W1.heap[w.heap.size]? = some (.map #[] 0) := by
    rw [hW]
    have := heap_alloc_new w (.map #[] 0)
    exact (Below.heap_alloc _ _ _ (by simp)).trans this
  have e2 : W1.heap[w.heap.size + 1]? = some (.cells #[.map (some w.heap.size)] 103 (0, 0)) := by
    rw [hW]
    have := heap_alloc_new (w.alloc (.map #[] 0)) (.cells #[.map (some w.heap.size)] 103 (0, 0))
    simpa using this
  obtain ⟨W2, hW2⟩ : ∃ W2, W2 = W1.alloc (.cells #[.int .i64 σ.room, nv, sv, cv, .int .i64 σ.c.calls, .bool σ.c.off, .int .i64 σ.c.fA, .int .i64 σ.c.fC, .int .i64 σ.c.tA, .int .i64 σ.c.fails] 51 (0, 0)) := ⟨_, rfl⟩
  have hb2 : Below w.heap.size w W2 := by rw [hW2]; exact hb1.alloc hb1.size _
  have hold : ∀ k, k < W1.heap.size → W2.heap[k]? = W1.heap[k]? := fun k hk => by rw [hW2]; exact Below.heap_alloc _ _ _ hk
  have hdk : DkL W2 W1.heap.size σ.room nv sv cv σ.c := by rw [hW2]; exact heap_alloc_new W1 _
  rw [← hW2]
  have t : TW w W2 (w.heap.size + 1) w.heap.size A loc σ.fl (fun _ => False) (fun _ => 0) (fun _ => .bool false) := by
    refine ⟨hb2, (hold _ (by omega)).trans e2, by omega, Nat.le_refl _, ⟨[], ⟨#[], 0, (hold _ (by omega)).trans e1, rfl⟩, (fun x hx => by cases hx), (fun i _ hf => hf.elim), fun i _ _ => rfl⟩, (fun i hf => hf.elim), (fun i hf => hf.elim), (fun i j hf => hf.elim), fun i j hf => hf.elim⟩
  have hdl : σ.dir.length ≤ 1048577 := by have := hi.dl; have := hi.ok.2.1; omega
  refine (with_any t h.file h.inj (fun i => ⟨(hi.fl i).1, (hi.fl i).2.2⟩) nv σ.dir h.dir h.gdDir h.alDir hdl).mono ?_
  rintro e w3 ⟨nb, loc3, dv3, rfl, hnb, m3, t3, _, k3⟩
  have hs2 : W2.heap.size = W1.heap.size + 1 := by rw [hW2]; simp
  refine ⟨nb, rfl, ⟨⟨loc3, dv3, t3.dnEq fun i => by simp, m3⟩, ?_, by omega, by omega⟩⟩
  unfold DkL
  rw [k3 W1.heap.size (by omega) (by omega)]
  exact hdk
theorem copy_two (h : LAt w p σ F A loc dv nv sv cv sd ch) (hi : Inv σ) (s : S1 w w3 q nb1 σ A loc nv sv cv) :
    Calls Tryz.prog 49 #[sv, .func (.func 76) #[] #[.pointer (some ⟨w.heap.size + 1, 0, none⟩)]] (w3.setCell ⟨q, 1, none⟩ (.map (some nb1))) fun e w5 => ∃ nb2, e = .returned (.map (some nb2)) ∧ S3 w w5 q nb1 nb2 σ A loc sv cv sd := by
  obtain ⟨loc3, dv3, t, m⟩ := s.ex
  have hg : w3.grownBy (w3.setCell ⟨q, 1, none⟩ (.map (some nb1))) (some q) := grown_set _ _ _ _
  have hd : DkL (w3.setCell ⟨q, 1, none⟩ (.map (some nb1))) q σ.room (.map (some nb1)) sv cv σ.c := s.dk.set1 _
  have hl0 := s.l0
  have hl1 := s.l1
  have t4 := t.keptD hg (by omega) s.dk.ty (by decide) (by decide) (by decide)
  have m4 : MapL (w3.setCell ⟨q, 1, none⟩ (.map (some nb1))) nb1 loc3 σ.dir := m.same (hg.block nb1 m.lt fun e => m.ne s.dk.ty (Option.some.inj e))
  generalize (w3.setCell ⟨q, 1, none⟩ (.map (some nb1))) = w4 at hg hd t4 m4 ⊢
  have hsl : sd.length ≤ 1048577 := by have := hi.wd sd h.sdMem; have := hi.ok.2.1; omega
  refine (with_any t4 h.file h.inj (fun i => ⟨(hi.fl i).1, (hi.fl i).2.2⟩) sv sd h.sure (h.gd sd h.sdMem) (h.al sd h.sdMem) hsl).mono ?_
  rintro e w5 ⟨nb2, loc4, dv4, rfl, hnb, m5, t5, a5, k5⟩
  have hlt := m4.lt
  have hsz := t4.bel.size
  refine ⟨nb2, rfl, ⟨⟨loc4, dv4, t5.dnEq fun i => Iff.rfl, (m4.same (k5 nb1 hlt (by omega))).loc fun e he => a5 _ ⟨e, he, rfl⟩, m5⟩, ?_, hl0, hl1, by omega, by omega⟩⟩
  unfold DkL
  rw [k5 q hd.ty.lt (by omega)]
  exact hd
theorem copy_three (h : LAt w p σ F A loc dv nv sv cv sd ch) (hi : Inv σ) (s : S3 w w5 q nb1 nb2 σ A loc sv cv sd) :
    Calls Tryz.prog 50 #[cv] (w5.setCell ⟨q, 2, none⟩ (.map (some nb2))) fun e w7 => ∃ ao c, e = .returned (.slice ao ch.length c) ∧ w7.cell? ⟨q, 3, none⟩ = some cv ∧ w7.frozen? ⟨q, 3, none⟩ = false ∧ CW w (w7.setCell ⟨q, 3, none⟩ (.slice ao ch.length c)) q nb1 nb2 σ A loc (.slice ao ch.length c) sd ch 0 := by
  obtain ⟨loc3, dv3, t, m1, m2⟩ := s.ex
  have hg : w5.grownBy (w5.setCell ⟨q, 2, none⟩ (.map (some nb2))) (some q) := grown_set _ _ _ _
  have hd : DkL (w5.setCell ⟨q, 2, none⟩ (.map (some nb2))) q σ.room (.map (some nb1)) (.map (some nb2)) cv σ.c := s.dk.set2 _
  have hl0 := s.l0
  have t6 := t.keptD hg (by omega) s.dk.ty (by decide) (by decide) (by decide)
  have n1 : MapL (w5.setCell ⟨q, 2, none⟩ (.map (some nb2))) nb1 loc3 σ.dir := m1.same (hg.block nb1 m1.lt fun e => m1.ne s.dk.ty (Option.some.inj e))
  have n2 : MapL (w5.setCell ⟨q, 2, none⟩ (.map (some nb2))) nb2 loc3 sd := m2.same (hg.block nb2 m2.lt fun e => m2.ne s.dk.ty (Option.some.inj e))
  generalize (w5.setCell ⟨q, 2, none⟩ (.map (some nb2))) = w6 at hg hd t6 n1 n2 ⊢
  have hchl : ch.length ≤ 1048577 := by
    have h1 := hi.wl
    have h2 := hi.ok.2.1
    rw [h.was, hist_length] at h1
    omega
  have hrow : w6.ownsRow 0 83 3 cv ch.length (ch.flatMap (chC loc)) := owns_same h.chs.row fun g e => t6.bel.block g (owns_ty h.chs.row e).lt
  refine (slicesClone_any loc ch cv w6 hrow hchl).mono ?_
  rintro e w7 ⟨ao, c, rfl, r7, b7⟩
  have hd7 : DkL w7 q σ.room (.map (some nb1)) (.map (some nb2)) cv σ.c := by unfold DkL; rw [b7.block q hd.ty.lt]; exact hd
  have t7 := t6.later b7
  have o1 := n1.same (b7.block nb1 n1.lt)
  have o2 := n2.same (b7.block nb2 n2.lt)
  have hg7 : w7.grownBy (w7.setCell ⟨q, 3, none⟩ (.slice ao ch.length c)) (some q) := grown_set _ _ _ _
  have hsz := t6.bel.size
  refine ⟨ao, c, rfl, cell_of hd7 3, frozen_of hd7 3, ⟨⟨loc3, dv3, (t7.keptD hg7 (by omega) hd7.ty (by decide) (by decide) (by decide)).dnEq fun j => by simp, o1.same (hg7.block nb1 o1.lt fun e => o1.ne hd7.ty (Option.some.inj e)), o2.same (hg7.block nb2 o2.lt fun e => o2.ne hd7.ty (Option.some.inj e)), ?_⟩, hd7.set3 _, hl0, s.l1, s.l2, s.ne⟩⟩
  rw [List.take_zero, List.drop_zero, List.flatMap_nil, List.nil_append]
  refine owns_same (w := w7) ⟨r7.1, r7.2.imp id fun ⟨g, cap, cur, a, b, c⟩ => ⟨g, cap, cur, a, Nat.le_trans hsz b, c⟩⟩ fun g e => hg7.block g (owns_ty r7 e).lt fun e2 => TyOf.ne (owns_ty r7 e) hd7.ty (by decide) (Option.some.inj e2)
end

theorem CW.cell {w wr : World} {q nb1 nb2 : Nat} {σ : DS} {A : Nat → Prop} {loc : Nat → Nat} {v' : Value} {sd : List Ent} {ch : List Chg} {k : Nat} (h : CW w wr q nb1 nb2 σ A loc v' sd ch k) {c : Chg} (hc : ch[k]? = some c) {g cap : Nat} (hv : v' = .slice (some ⟨g, 0, none⟩) ch.length cap) : wr.cell? ⟨g, k * 3 + 2, none⟩ = some (pv loc c.f) := by
  obtain ⟨loc6, _, _, _, _, rr⟩ := h.ex
  have hk := (List.getElem?_eq_some_iff.1 hc).1
  have hcl := World.ownsRow.cells rr (g := g) (by rw [hv]; rfl) (k * 3 + 2) (pv loc c.f) (by
    have h1 : ch.drop k = c :: ch.drop (k + 1) := by rw [List.drop_eq_getElem_cons hk, (List.getElem?_eq_some_iff.1 hc).2]
    have h3 : ((ch.take k).flatMap (chC loc6)).length = k * 3 := by rw [flatC_len, List.length_take]; omega
    rw [List.getElem?_append_right (by rw [h3]; omega), h3, h1, show k * 3 + 2 - k * 3 = 2 by omega]
    rfl)
  rw [Addr.add_lit] at hcl
  simpa using hcl
set_option maxHeartbeats 4000000 in
set_option maxRecDepth 100000 in
theorem copy_any (p : Nat) (σ : DS) (F : Nat → Prop) (w : World) (h : RL w p σ F) (hi : Inv σ) :
    Calls Tryz.prog 16 #[ptr p] w fun e w' => ∃ q G, e = .returned (ptr q) ∧ RL w' q σ G ∧ (∀ k, G k → w.heap.size ≤ k) ∧ Below w.heap.size w w' := by
  obtain ⟨A, loc, dv, nv, sv, cv, sd, ch, h⟩ := h
  obtain ⟨mo, rfl⟩ : ∃ mo, nv = .map mo := by
    rcases h.dir with ⟨e, _⟩ | ⟨b, e, _⟩
    · exact ⟨_, e⟩
    · exact ⟨_, e⟩
  obtain ⟨so, rfl⟩ : ∃ so, sv = .map so := by
    rcases h.sure with ⟨e, _⟩ | ⟨b, e, _⟩
    · exact ⟨_, e⟩
    · exact ⟨_, e⟩
  obtain ⟨co, cc0, rfl⟩ := ChR.slice h.chs.row
  obtain ⟨W1, hW1⟩ : ∃ W1, W1 = (w.alloc (.map #[] 0)).alloc (.cells #[.map (some w.heap.size)] 103 (0, 0)) := ⟨_, rfl⟩
  have kt := copier_any w
  rw [← hW1] at kt
  have hb1 : Below w.heap.size w W1 := by rw [hW1]; exact ((Below.refl _ _).alloc (Nat.le_refl _) _).alloc (by simp) _
  have LW := h.later hb1
  have c0 : W1.cell? ⟨p, 0, none⟩ = some (.int .i64 σ.room) := cell_of LW.blk 0
  have c1 : W1.cell? ⟨p, 1, none⟩ = some (.map mo) := cell_of LW.blk 1
  have c2 : W1.cell? ⟨p, 2, none⟩ = some (.map so) := cell_of LW.blk 2
  have c3 : W1.cell? ⟨p, 3, none⟩ = some (.slice co ch.length cc0) := cell_of LW.blk 3
  have c4 : W1.cell? ⟨p, 4, none⟩ = some (.int .i64 σ.c.calls) := cell_of LW.blk 4
  have c5 : W1.cell? ⟨p, 5, none⟩ = some (.bool σ.c.off) := cell_of LW.blk 5
  have c6 : W1.cell? ⟨p, 6, none⟩ = some (.int .i64 σ.c.fA) := cell_of LW.blk 6
  have c7 : W1.cell? ⟨p, 7, none⟩ = some (.int .i64 σ.c.fC) := cell_of LW.blk 7
  have c8 : W1.cell? ⟨p, 8, none⟩ = some (.int .i64 σ.c.tA) := cell_of LW.blk 8
  have c9 : W1.cell? ⟨p, 9, none⟩ = some (.int .i64 σ.c.fails) := cell_of LW.blk 9
  have hp := LW.lt p h.fp
  have k1 := copy_one h hi W1 hW1
  have HS1 : Hid (∀ w3 nb1, S1 w w3 W1.heap.size nb1 σ A loc (.map mo) (.map so) (.slice co ch.length cc0) → w3.cell? ⟨W1.heap.size, 1, none⟩ = some (.map mo) ∧ w3.frozen? ⟨W1.heap.size, 1, none⟩ = false ∧ w3.cell? ⟨p, 2, none⟩ = some (.map so) ∧ Calls Tryz.prog 49 #[.map so, .func (.func 76) #[] #[.pointer (some ⟨w.heap.size + 1, 0, none⟩)]] (w3.setCell ⟨W1.heap.size, 1, none⟩ (.map (some nb1))) fun e w5 => ∃ nb2, e = .returned (.map (some nb2)) ∧ S3 w w5 W1.heap.size nb1 nb2 σ A loc (.map so) (.slice co ch.length cc0) sd) := fun w3 nb1 s => by
    obtain ⟨_, _, t, _⟩ := s.ex
    exact ⟨cell_of s.dk 1, frozen_of s.dk 1, cell_of (h.later t.bel).blk 2, copy_two h hi s⟩
  have HS3 : Hid (∀ w5 nb1 nb2, S3 w w5 W1.heap.size nb1 nb2 σ A loc (.map so) (.slice co ch.length cc0) sd → w5.cell? ⟨W1.heap.size, 2, none⟩ = some (.map so) ∧ w5.frozen? ⟨W1.heap.size, 2, none⟩ = false ∧ w5.cell? ⟨p, 3, none⟩ = some (.slice co ch.length cc0) ∧ Calls Tryz.prog 50 #[.slice co ch.length cc0] (w5.setCell ⟨W1.heap.size, 2, none⟩ (.map (some nb2))) fun e w7 => ∃ ao c, e = .returned (.slice ao ch.length c) ∧ w7.cell? ⟨W1.heap.size, 3, none⟩ = some (.slice co ch.length cc0) ∧ w7.frozen? ⟨W1.heap.size, 3, none⟩ = false ∧ CW w (w7.setCell ⟨W1.heap.size, 3, none⟩ (.slice ao ch.length c)) W1.heap.size nb1 nb2 σ A loc (.slice ao ch.length c) sd ch 0) := fun w5 nb1 nb2 s => by
    obtain ⟨_, _, t, _⟩ := s.ex
    exact ⟨cell_of s.dk 2, frozen_of s.dk 2, cell_of (h.later t.bel).blk 3, copy_three h hi s⟩
  have HCW : Hid (∀ wr nb1 nb2 g cap k c, CW w wr W1.heap.size nb1 nb2 σ A loc (.slice (some ⟨g, 0, none⟩) ch.length cap) sd ch k → ch[k]? = some c → Calls Tryz.prog 76 #[pv loc c.f, .pointer (some ⟨w.heap.size + 1, 0, none⟩)] wr fun e w2 => ∃ o, e = .returned (.pointer o) ∧ w2.cell? ⟨W1.heap.size, 3, none⟩ = some (.slice (some ⟨g, 0, none⟩) ch.length cap) ∧ w2.cell? ⟨g, k * 3 + 2, none⟩ = some (pv loc c.f) ∧ w2.frozen? ⟨g, k * 3 + 2, none⟩ = false ∧ CW w (w2.setCell ⟨g, k * 3 + 2, none⟩ (.pointer o)) W1.heap.size nb1 nb2 σ A loc (.slice (some ⟨g, 0, none⟩) ch.length cap) sd ch (k + 1)) := fun wr nb1 nb2 g cap k c s hc => s.call h (fun i => ⟨(hi.fl i).1, (hi.fl i).2.2⟩) hc rfl
  have HE : Hid (∀ wr nb1 nb2 v, CW w wr W1.heap.size nb1 nb2 σ A loc v sd ch ch.length → ∃ G, RL wr W1.heap.size σ G ∧ (∀ k, G k → w.heap.size ≤ k) ∧ Below w.heap.size w wr) := fun wr nb1 nb2 v s => s.done h
  have HLn : Hid (ch.length ≤ 1048577) := by
    show _ ≤ _
    have h1 := hi.wl
    have h2 := hi.ok.2.1
    rw [h.was, hist_length] at h1
    omega
  generalize σ.room = x0, σ.c.calls = x4, σ.c.off = x5, σ.c.fA = x6, σ.c.fC = x7, σ.c.tA = x8, σ.c.fails = x9 at c0 c4 c5 c6 c7 c8 c9 k1
  clear h hi hW1 hb1 LW
  unfold ptr
  go_enter Tryz.func16, Tryz.ntmps16
  go_wp2_with (first | (go_at_call 48; refine kt.mono ?_; rintro e w1 ⟨rfl, hw1⟩; obtain rfl := hw1.symm; clear kt) | (go_at_call 49; first | (refine k1.mono ?_; rintro e w3 ⟨nb1, rfl, s1⟩; obtain ⟨y1, y2, y3, k2⟩ := HS1.out _ _ s1; clear k1 s1 c0 c1 c2 c3 c4 c5 c6 c7 c8 c9) | (refine k2.mono ?_; rintro e w5 ⟨nb2, rfl, s3⟩; obtain ⟨z1, z2, z3, k3⟩ := HS3.out _ _ _ s3; clear k2 s3 y1 y2 y3)) | (go_at_call 50; refine k3.mono ?_; rintro e w7 ⟨ao, cc, rfl, v1, v2, s7⟩; clear k3 z1 z2 z3))
  obtain ⟨W8, hW8⟩ : ∃ W8, W8 = w7.setCell ⟨W1.heap.size, 3, none⟩ (.slice ao ch.length cc) := ⟨_, rfl⟩
  rw [← hW8] at s7 ⊢
  have S8 : Hid (CW w W8 W1.heap.size nb1 nb2 σ A loc (.slice ao ch.length cc) sd ch 0) := s7
  have hln := HLn.out
  obtain ⟨n, hn⟩ : ∃ n, n = ch.length := ⟨_, rfl⟩
  have HNC : Hid (n = ch.length) := hn
  have hsh : (ao = none ∧ n = 0) ∨ ∃ g, ao = some ⟨g, 0, none⟩ := by
    obtain ⟨_, _, _, _, _, r⟩ := s7.ex
    rcases r.2 with ⟨e, h0⟩ | ⟨g, cap, cur, e, _⟩
    · simp only [Value.slice.injEq] at e
      exact .inl ⟨e.1, by omega⟩
    · simp only [Value.slice.injEq] at e
      exact .inr ⟨g, e.1⟩
  rw [← hn] at hln ⊢
  clear s7 hW8 v1 v2 HS1 HS3 hn
  rcases hsh with ⟨rfl, rfl⟩ | ⟨g, rfl⟩
  · obtain ⟨G, f1, f2, f3⟩ := HE.out _ _ _ _ (by have := S8.out; rw [HNC.out] at this; exact this)
    clear HCW HE
    refine wp_loop_rounds 1 ?_
    rw [rounds_succ]
    go_wp2_with fail
    go_ret
    exact ⟨_, _, rfl, f1, f2, f3⟩
  · go_loopg [35] n (fun gk i wr => ∃ k : Nat, i = .int .i64 (k : Int) ∧ k + gk = n ∧ Hid (CW w wr W1.heap.size nb1 nb2 σ A loc (.slice (some ⟨g, 0, none⟩) ch.length cc) sd ch k))
    case atStart => exact ⟨0, rfl, by omega, S8⟩
    case round =>
      obtain ⟨k, rfl, hk, HC⟩ := hrel
      by_cases hkl : k < n
      · obtain ⟨c, hc⟩ : ∃ c, ch[k]? = some c := ⟨_, List.getElem?_eq_getElem (by rw [← HNC.out]; exact hkl)⟩
        have kc := HCW.out _ _ _ _ _ _ _ (HC.out.drew (wx := wr.drew) rfl rfl rfl rfl) hc
        have y1 : wr.cell? ⟨W1.heap.size, 3, none⟩ = some (.slice (some ⟨g, 0, none⟩) ch.length cc) := cell_of HC.out.dk 3
        have y2 : wr.cell? ⟨g, k * 3 + 2, none⟩ = some (pv loc c.f) := HC.out.cell hc rfl
        obtain ⟨o, ho⟩ : ∃ o, pv loc c.f = .pointer o := by cases c.f with | none => exact ⟨_, rfl⟩ | some i => exact ⟨_, rfl⟩
        rw [ho] at y2 kc
        rw [← HNC.out] at y1 kc
        have hki : (k : Int) < (n : Int) := by omega
        obtain ⟨G, HGK⟩ : ∃ G, Hid (G < gk ∧ k + 1 + G = n) := ⟨gk - 1, by omega, by omega⟩
        clear hk HC ho HCW HE hc S8
        go_wp2_with fail
        go_region_with (first | (go_at_call 76; refine kc.mono ?_; rintro e w2 ⟨o2, rfl, u1, u2, u3, s2⟩))
        all_goals
          go_wp2_with fail
          go_roundg G
          case measure => exact HGK.out.1
          case rel => exact ⟨k + 1, by simp, HGK.out.2, by rw [← HNC.out]; exact s2⟩
      · have hkq : k = n := by omega
        have hki : ¬ (k : Int) < (n : Int) := by omega
        obtain ⟨G, f1, f2, f3⟩ := HE.out _ _ _ _ (by have := HC.out; rw [hkq, HNC.out] at this; exact this)
        clear hk HC HCW HE S8
        go_wp2_with fail
        go_ret
        exact ⟨_, rfl, _, f1, f2, f3⟩
theorem theCps : Cps theDisk := ⟨fun {w p σ F} h hi => copy_any p σ F w h hi⟩
end Go.Proofs.YtligofmcmjblpaaGreat

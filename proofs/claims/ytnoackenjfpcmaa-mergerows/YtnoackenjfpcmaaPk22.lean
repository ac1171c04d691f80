import Derived.Lib.SlBytesConst
import Derived.Test.YtnoackenjfpcmaaPk08
import Derived.Test.YtnoackenjfpcmaaPk12
import Derived.Test.YtnoackenjfpcmaaPk15
import Derived.Test.YtnoackenjfpcmaaPk21
/- The laws of rows as one: what every program must know. -/
namespace Go.Proofs.Ytnoackenjfpcmaa
open Go.RowKit
set_option linter.unusedVariables false
set_option linter.unusedSimpArgs false

theorem rs_obj {α : Type} {E : El α} {W : World} {b : Nat} {vs : List Value} {t : TypeId} {f : Nat × Nat} {x : α} (h : W.heap[b]? = some (.cells vs.toArray t f)) (hM : E.M W vs x) : RS E W (some ⟨b, 0, none⟩) 1 1 [x] := by
  refine ⟨vs, rfl, (fun q => by cases q), Nat.le_refl _, by unfold maxLen; omega, ⟨vs, [], by simp, hM, rfl⟩, fun j u hu => ⟨_, _, rfl, ?_⟩⟩
  rw [Nat.zero_add]
  simp only [World.cell?, h]
  simpa using hu
theorem sl_obj {W : World} {b : Nat} {x : Int} {t : TypeId} {f : Nat × Nat} (h : W.heap[b]? = some (.cells #[.int .u8 x] t f)) (h0 : 0 ≤ x) (h1 : x < 256) : Sl W (some ⟨b, 0, none⟩) 1 1 [x] := by
  refine ⟨rfl, fun y hy => by rw [List.mem_singleton.1 hy]; omega, (fun q => by cases q), Nat.le_refl _, by unfold maxLen; omega, fun k hk => ?_⟩
  obtain rfl : k = 0 := by omega
  refine ⟨by simp [xof]; omega, b, 0, rfl, ?_⟩
  simp only [World.cell?, h]
  simp [xof]
  omega
def e5 : EntV := ⟨[97], 5, false, 0, []⟩
def e7 : EntV := ⟨[97], 7, false, 0, []⟩
theorem rows_e (w : World) : ErRow (((((((w.alloc (.cells #[.int .u8 97] 5 (1, 2))).alloc (.cells #[.int .u8 97] 5 (1, 2))).alloc (.cells #[.slice (some ⟨w.heap.size, 0, none⟩) 1 1, .int .i64 5, .bool false, .int .i64 0, .slice none 0 0] 35)).alloc
    (.cells #[.slice (some ⟨w.heap.size + 1, 0, none⟩) 1 1, .int .i64 7, .bool false, .int .i64 0, .slice none 0 0] 35)).alloc (.cells #[.slice (some ⟨w.heap.size, 0, none⟩) 1 1, .int .i64 5, .bool false, .int .i64 0, .slice none 0 0] 35)).alloc
    (.cells #[.slice (some ⟨w.heap.size + 1, 0, none⟩) 1 1, .int .i64 7, .bool false, .int .i64 0, .slice none 0 0] 35)).alloc (.cells #[.slice (some ⟨w.heap.size + 1 + 1 + 1 + 1, 0, none⟩) 1 1, .slice (some ⟨w.heap.size + 1 + 1 + 1 + 1 + 1, 0, none⟩) 1 1] 27)) (some ⟨w.heap.size + 1 + 1 + 1 + 1 + 1 + 1, 0, none⟩) 2 2 [[e5], [e7]] := by
  obtain ⟨w1, h1⟩ : ∃ x, x = w.alloc (.cells #[.int .u8 97] 5 (1, 2)) := ⟨_, rfl⟩
  obtain ⟨w2, h2⟩ : ∃ x, x = w1.alloc (.cells #[.int .u8 97] 5 (1, 2)) := ⟨_, rfl⟩
  obtain ⟨w3, h3⟩ : ∃ x, x = w2.alloc (.cells #[.slice (some ⟨w.heap.size, 0, none⟩) 1 1, .int .i64 5, .bool false, .int .i64 0, .slice none 0 0] 35) := ⟨_, rfl⟩
  obtain ⟨w4, h4⟩ : ∃ x, x = w3.alloc (.cells #[.slice (some ⟨w.heap.size + 1, 0, none⟩) 1 1, .int .i64 7, .bool false, .int .i64 0, .slice none 0 0] 35) := ⟨_, rfl⟩
  obtain ⟨w5, h5⟩ : ∃ x, x = w4.alloc (.cells #[.slice (some ⟨w.heap.size, 0, none⟩) 1 1, .int .i64 5, .bool false, .int .i64 0, .slice none 0 0] 35) := ⟨_, rfl⟩
  obtain ⟨w6, h6⟩ : ∃ x, x = w5.alloc (.cells #[.slice (some ⟨w.heap.size + 1, 0, none⟩) 1 1, .int .i64 7, .bool false, .int .i64 0, .slice none 0 0] 35) := ⟨_, rfl⟩
  obtain ⟨w7, h7⟩ : ∃ x, x = w6.alloc (.cells #[.slice (some ⟨w.heap.size + 1 + 1 + 1 + 1, 0, none⟩) 1 1, .slice (some ⟨w.heap.size + 1 + 1 + 1 + 1 + 1, 0, none⟩) 1 1] 27) := ⟨_, rfl⟩
  rw [← h1, ← h2, ← h3, ← h4, ← h5, ← h6, ← h7]
  have z1 : w1.heap.size = w.heap.size + 1 := by rw [h1]; simp
  have z2 : w2.heap.size = w.heap.size + 1 + 1 := by rw [h2]; simp [z1]
  have z3 : w3.heap.size = w.heap.size + 1 + 1 + 1 := by rw [h3]; simp [z2]
  have z4 : w4.heap.size = w.heap.size + 1 + 1 + 1 + 1 := by rw [h4]; simp [z3]
  have z5 : w5.heap.size = w.heap.size + 1 + 1 + 1 + 1 + 1 := by rw [h5]; simp [z4]
  have z6 : w6.heap.size = w.heap.size + 1 + 1 + 1 + 1 + 1 + 1 := by rw [h6]; simp [z5]
  have hb : ∀ (x : World) (o : Obj) (k : Nat), k < x.heap.size → (x.alloc o).heap[k]? = x.heap[k]? := fun x o k hk => ((Below.refl _ x).alloc (Nat.le_refl _) o).block k hk
  have k0 : w7.heap[w.heap.size]? = some (.cells #[.int .u8 97] 5 (1, 2)) := by
    rw [h7, hb _ _ _ (by omega), h6, hb _ _ _ (by omega), h5, hb _ _ _ (by omega), h4, hb _ _ _ (by omega), h3, hb _ _ _ (by omega), h2, hb _ _ _ (by omega), h1]; exact heap_alloc_new _ _
  have k1 : w7.heap[w.heap.size + 1]? = some (.cells #[.int .u8 97] 5 (1, 2)) := by
    rw [h7, hb _ _ _ (by omega), h6, hb _ _ _ (by omega), h5, hb _ _ _ (by omega), h4, hb _ _ _ (by omega), h3, hb _ _ _ (by omega), h2, ← z1]; exact heap_alloc_new _ _
  have k4 : w7.heap[w.heap.size + 1 + 1 + 1 + 1]? = some (.cells #[.slice (some ⟨w.heap.size, 0, none⟩) 1 1, .int .i64 5, .bool false, .int .i64 0, .slice none 0 0] 35) := by
    rw [h7, hb _ _ _ (by omega), h6, hb _ _ _ (by omega), h5, ← z4]; exact heap_alloc_new _ _
  have k5 : w7.heap[w.heap.size + 1 + 1 + 1 + 1 + 1]? = some (.cells #[.slice (some ⟨w.heap.size + 1, 0, none⟩) 1 1, .int .i64 7, .bool false, .int .i64 0, .slice none 0 0] 35) := by
    rw [h7, hb _ _ _ (by omega), h6, ← z5]; exact heap_alloc_new _ _
  have k6 : w7.heap[w.heap.size + 1 + 1 + 1 + 1 + 1 + 1]? = some (.cells #[.slice (some ⟨w.heap.size + 1 + 1 + 1 + 1, 0, none⟩) 1 1, .slice (some ⟨w.heap.size + 1 + 1 + 1 + 1 + 1, 0, none⟩) 1 1] 27) := by
    rw [h7, ← z6]; exact heap_alloc_new _ _
  have r4 : RS entE w7 (some ⟨w.heap.size + 1 + 1 + 1 + 1, 0, none⟩) 1 1 [e5] := rs_obj (vs := [.slice (some ⟨w.heap.size, 0, none⟩) 1 1, .int .i64 5, .bool false, .int .i64 0, .slice none 0 0]) k4 ⟨_, _, _, _, rfl, sl_obj k0 (by decide) (by decide), Sl.nil _, by unfold In64; decide, by unfold In64; decide⟩
  have r5 : RS entE w7 (some ⟨w.heap.size + 1 + 1 + 1 + 1 + 1, 0, none⟩) 1 1 [e7] := rs_obj (vs := [.slice (some ⟨w.heap.size + 1, 0, none⟩) 1 1, .int .i64 7, .bool false, .int .i64 0, .slice none 0 0]) k5 ⟨_, _, _, _, rfl, sl_obj k1 (by decide) (by decide), Sl.nil _, by unfold In64; decide, by unfold In64; decide⟩
  refine ⟨⟨rfl, Nat.le_refl _, by unfold maxLen; omega⟩, (fun q => by cases q), fun k l hl => ?_⟩
  match k, hl with
  | 0, hl =>
    obtain rfl : [e5] = l := by simpa using hl
    exact ⟨_, 0, _, _, rfl, by simp only [World.cell?, k6]; rfl, r4⟩
  | 1, hl =>
    obtain rfl : [e7] = l := by simpa using hl
    exact ⟨_, 0, _, _, rfl, by simp only [World.cell?, k6]; rfl, r5⟩
  | k + 2, hl => simp at hl
theorem ab_mrg : mrC [[e5], [e7]] = 0 ∧ mrV [[e5], [e7]] = [e7, e5] := by
  have hc : mrC [[e5], [e7]] = 0 := by
    unfold mrC
    rw [if_pos (ord_all fun l hl => by
      simp only [List.mem_cons, List.not_mem_nil, or_false] at hl
      rcases hl with rfl | rfl <;> exact List.pairwise_singleton _ _), if_neg (by unfold sumR; simp)]
  refine ⟨hc, ?_⟩
  unfold mrV
  rw [if_pos hc]
  refine (ordE_uniq ?_ (mrgE_wk fun l hl => ?_) ?_).symm
  · unfold ordE
    rw [List.pairwise_cons]
    refine ⟨fun a ha => ?_, List.pairwise_singleton _ _⟩
    rw [List.mem_singleton.1 ha]
    decide
  · simp only [List.mem_cons, List.not_mem_nil, or_false] at hl
    rcases hl with rfl | rfl <;> exact List.pairwise_singleton _ _
  · exact (List.Perm.swap e5 e7 []).trans (mrgE_perm [[e5], [e7]]).symm
set_option maxHeartbeats 4000000 in
set_option maxRecDepth 100000 in
theorem awake16_t (w : World) : Calls Try.prog 10 #[] w fun e w' => e = .returned (.bool true) ∧ Below w.heap.size w w' := by
  have hcv := fun (w : World) a l c => Lib.run_convert_bytes_const (P := Try.prog) w 33 5 a l c Try.underlying33 Try.underlying5
  have hcv2 : ∀ (w : World) X, (convert 33 33 (.slice (some ⟨w.heap.size + 1, 0, none⟩) 1 1)).run Try.prog ((w.alloc X).alloc (.cells #[.int .u8 97] 5)) = .ok (.slice (some ⟨w.heap.size + 1, 0, none⟩) 1 1) ((w.alloc X).alloc (.cells #[.int .u8 97] 5 (1, 2))) := fun w X => by
    have := Lib.run_convert_bytes_const (P := Try.prog) (w.alloc X) 33 5 #[.int .u8 97] 1 1 Try.underlying33 Try.underlying5
    simpa using this
  have hm := merge_t (rows_e w) ⟨by simp, by intro l hl; simp only [List.mem_cons, List.not_mem_nil, or_false] at hl; rcases hl with rfl | rfl <;> simp, by
    intro l hl e he
    simp only [List.mem_cons, List.not_mem_nil, or_false] at hl
    rcases hl with rfl | rfl <;> (rw [List.mem_singleton.1 he]; exact ⟨by decide, by decide⟩)⟩
  rw [ab_mrg.1, ab_mrg.2] at hm
  obtain ⟨W, hW⟩ : ∃ W, W = (((((((w.alloc (.cells #[.int .u8 97] 5 (1, 2))).alloc (.cells #[.int .u8 97] 5 (1, 2))).alloc (.cells #[.slice (some ⟨w.heap.size, 0, none⟩) 1 1, .int .i64 5, .bool false, .int .i64 0, .slice none 0 0] 35)).alloc
    (.cells #[.slice (some ⟨w.heap.size + 1, 0, none⟩) 1 1, .int .i64 7, .bool false, .int .i64 0, .slice none 0 0] 35)).alloc (.cells #[.slice (some ⟨w.heap.size, 0, none⟩) 1 1, .int .i64 5, .bool false, .int .i64 0, .slice none 0 0] 35)).alloc
    (.cells #[.slice (some ⟨w.heap.size + 1, 0, none⟩) 1 1, .int .i64 7, .bool false, .int .i64 0, .slice none 0 0] 35)).alloc (.cells #[.slice (some ⟨w.heap.size + 1 + 1 + 1 + 1, 0, none⟩) 1 1, .slice (some ⟨w.heap.size + 1 + 1 + 1 + 1 + 1, 0, none⟩) 1 1] 27)) := ⟨_, rfl⟩
  have HB : Hid (Below w.heap.size w W) := by
    show Below w.heap.size w W
    rw [hW]
    have hb : ∀ {x : World} (o : Obj), Below w.heap.size w x → Below w.heap.size w (x.alloc o) := fun o h => h.alloc h.size o
    exact hb _ (hb _ (hb _ (hb _ (hb _ (hb _ (hb _ (Below.refl _ _)))))))
  have HM : Hid (Calls Try.prog 12 #[.slice (some ⟨w.heap.size + 1 + 1 + 1 + 1 + 1 + 1, 0, none⟩) 2 2] W fun r w' => ∃ a c b off, r = .returned (.tuple #[.slice a 2 c, .int .i64 0]) ∧ a = some ⟨b, off, none⟩ ∧ w'.cell? ⟨b, off + 1, none⟩ = some (.int .i64 7) ∧ Below W.heap.size W w') := by
    show Calls _ _ _ _ _
    rw [hW]
    refine hm.mono ?_
    rintro r w' ⟨v, rfl, hr, hb⟩
    obtain ⟨a, c, rfl, hrs⟩ := hr.rs
    obtain ⟨b, off, ka, kc, va, vc, rfl, d0, d1, -⟩ := RS.ent hrs (i := 0) (o := e7) rfl
    exact ⟨_, c, b, off, rfl, rfl, by simpa [e7] using d1, hb⟩
  rw [hW] at HM
  have HW := hidM hW
  clear hm hW
  go_enter Try.func10, Try.ntmps10
  go_wp2_with (go_at_call 12; refine HM.out.mono ?_; rintro r w5 ⟨a, c, b, off, rfl, rfl, d1, hb5⟩)
  rw [← HW.out] at hb5
  exact bodyPost_ret (v := .bool true) (by simp [results, Try.results10, go_sem]) rfl ⟨rfl, HB.out.trans (hb5.mono HB.out.size)⟩
end Go.Proofs.Ytnoackenjfpcmaa

/- The rows that the laws bring in order. -/
namespace Go.Proofs.Ytnoackenjfpcmaa
set_option linter.unusedVariables false
set_option linter.unusedSimpArgs false

def putS (s : List EntV) (e : EntV) : List EntV := if hasE s e = true then s else putE s e
def srtL (l : List EntV) : List EntV := (l.take 30).foldl putS []
def srtR : Nat → List (List EntV) → List (List EntV)
  | _, [] => []
  | i, l :: rs => (if i < 20 then srtL l else []) :: srtR (i + 1) rs
theorem putS_ord {s : List EntV} (h : ordE s) (e : EntV) : ordE (putS s e) := by
  unfold putS
  by_cases q : hasE s e = true
  · rw [if_pos q]; exact h
  · rw [if_neg q]; exact putE_ord h (by simpa using q)
theorem putS_len (s : List EntV) (e : EntV) : (putS s e).length ≤ s.length + 1 := by
  unfold putS
  split
  · omega
  · rw [putE_len]; omega
theorem foldS_ord : ∀ (l s : List EntV), ordE s → ordE (l.foldl putS s)
  | [], s, h => h
  | e :: r, s, h => foldS_ord r _ (putS_ord h e)
theorem foldS_len : ∀ (l s : List EntV), (l.foldl putS s).length ≤ s.length + l.length
  | [], s => by simp
  | e :: r, s => by
    rw [List.foldl_cons, List.length_cons]
    have h1 := foldS_len r (putS s e)
    have h2 := putS_len s e
    omega
theorem putS_mem {s : List EntV} {e x : EntV} (h : x ∈ putS s e) : x ∈ s ∨ x = e := by
  unfold putS at h
  split at h
  · exact .inl h
  · rcases List.mem_cons.1 ((putE_perm s e).mem_iff.1 h) with q | q
    · exact .inr q
    · exact .inl q
theorem foldS_mem : ∀ (l s : List EntV) {x : EntV}, x ∈ l.foldl putS s → x ∈ s ∨ x ∈ l
  | [], s, x, h => .inl h
  | e :: r, s, x, h => by
    rcases foldS_mem r _ h with q | q
    · rcases putS_mem q with q | q
      · exact .inl q
      · exact .inr (by simp [q])
    · exact .inr (List.mem_cons_of_mem _ q)
theorem srtL_ord (l : List EntV) : ordE (srtL l) := foldS_ord _ _ List.Pairwise.nil
theorem srtL_len (l : List EntV) : (srtL l).length ≤ 30 := by
  have h := foldS_len (l.take 30) []
  have : (l.take 30).length ≤ 30 := by rw [List.length_take]; omega
  unfold srtL
  simp at h
  omega
theorem srtL_mem {l : List EntV} {x : EntV} (h : x ∈ srtL l) : x ∈ l := by
  rcases foldS_mem _ _ h with q | q
  · cases q
  · exact List.mem_of_mem_take q
theorem srtR_len : ∀ (i : Nat) (rs : List (List EntV)), (srtR i rs).length = rs.length
  | _, [] => rfl
  | i, l :: rs => by rw [srtR, List.length_cons, srtR_len (i + 1) rs, List.length_cons]
theorem srtR_ord : ∀ (i : Nat) (rs : List (List EntV)), ∀ l ∈ srtR i rs, ordE l
  | _, [], l, h => by cases h
  | i, l' :: rs, l, h => by
    unfold srtR at h
    rcases List.mem_cons.1 h with rfl | h
    · split
      · exact srtL_ord _
      · exact List.Pairwise.nil
    · exact srtR_ord (i + 1) rs l h
theorem srtR_at : ∀ {i k : Nat} {rs : List (List EntV)} {l : List EntV}, rs[k]? = some l → (srtR i rs)[k]? = some (if i + k < 20 then srtL l else [])
  | i, 0, l' :: rs, l, h => by
    obtain rfl : l' = l := by simpa using h
    simp [srtR]
  | i, k + 1, l' :: rs, l, h => by
    have := srtR_at (i := i + 1) (k := k) (rs := rs) (by simpa using h)
    rw [srtR, List.getElem?_cons_succ, this, show i + 1 + k = i + (k + 1) by omega]
theorem srtR_small : ∀ (i : Nat) (rs : List (List EntV)), ∀ l ∈ srtR i rs, l.length ≤ 30
  | _, [], l, h => by cases h
  | i, l' :: rs, l, h => by
    unfold srtR at h
    rcases List.mem_cons.1 h with rfl | h
    · split
      · exact srtL_len _
      · simp
    · exact srtR_small (i + 1) rs l h
end Go.Proofs.Ytnoackenjfpcmaa

/- The rows that the laws bring in order: in memory. -/
namespace Go.Proofs.Ytnoackenjfpcmaa
open Go.RowKit
set_option linter.unusedVariables false
set_option linter.unusedSimpArgs false

/-- Values of one cell that name old memory alone. -/
def slvE : El Value where
  ty := 27
  size := 1
  M := fun w vs x => vs = [x] ∧ x.oneCell' = true ∧ ∀ b, Refs x b → b < w.heap.size
  len := fun h => by obtain ⟨rfl, _⟩ := h; rfl
  one := fun h v hv => by obtain ⟨rfl, h1, _⟩ := h; rw [List.mem_singleton.1 hv]; exact h1
  lt := fun h v hv b hr => by obtain ⟨rfl, _, h2⟩ := h; rw [List.mem_singleton.1 hv] at hr; exact h2 b hr
  keep := fun {w w' vs x} h hk => by
    obtain ⟨rfl, h1, h2⟩ := h
    refine ⟨rfl, h1, fun b hr => ?_⟩
    have e := hk x (by simp) b hr
    have hl := h2 b hr
    rw [Array.getElem?_eq_getElem hl] at e
    exact (Array.getElem?_eq_some_iff.1 e).1
theorem slvE_info : (Try.prog.info? slvE.ty).map (fun i => (i.zero, i.size, i.bytes)) = some (some (.slice none 0 0), slvE.size, 24) := by kernel_rfl
theorem lay_slv {w : World} : ∀ {us xs : List Value}, Lay slvE w us xs → us = xs
  | us, [], h => h
  | us, x :: xs, h => by
    obtain ⟨vs, us', rfl, ⟨e, _⟩, h2⟩ := h
    rw [e, lay_slv h2]; rfl
theorem RSG.grown {α : Type} {E : El α} (hp : 0 < E.size) {G : Nat → Prop} {w w' : World} {r : Option Nat} {ao : Option Addr} {n c : Nat} {xs : List α} (h : RSG E G w ao n c xs) (hg : w.grownBy w' r) (hG : ∀ b, G b → some b ≠ r) (ho : ∀ b off, ao = some ⟨b, off, none⟩ → 0 < n → some b ≠ r) : RSG E G w' ao n c xs := by
  obtain ⟨us, ⟨h1, h2, h3, h4, h5, h6⟩, hgs⟩ := h
  refine ⟨us, ⟨h1, h2, h3, h4, h5.keep fun u hu b hr => hg.block b (h5.lt u hu b hr) (hG b (hgs u hu b hr)), fun j u hu => ?_⟩, hgs⟩
  obtain ⟨b, off, e, hc⟩ := h6 j u hu
  have hn : 0 < n := by
    have hl := h5.len
    have hj := (List.getElem?_eq_some_iff.1 hu).1
    rcases Nat.eq_zero_or_pos n with z | z
    · rw [z] at h1
      rw [h1, Nat.zero_mul] at hl
      omega
    · exact z
  exact ⟨b, off, e, by rw [World.cell?_of_block (w := w) (a := ⟨b, off + j, none⟩) (hg.block b (World.block_lt_of_cell? _ _ hc) (ho b off e hn))]; exact hc⟩
/-- What the values of a row of one's own name. -/
def Rws (G : Nat → Prop) (w : World) (xs : List Value) (ls : List (List EntV)) : Prop := xs.length = ls.length ∧ ∀ (j : Nat) (x : Value) (l : List EntV), xs[j]? = some x → ls[j]? = some l → ∃ la lc, x = .slice la l.length lc ∧ RSG entE G w la l.length lc l
theorem Rws.later {G : Nat → Prop} {w w' : World} {xs : List Value} {ls : List (List EntV)} (h : Rws G w xs ls) (hb : Below w.heap.size w w') : Rws G w' xs ls := ⟨h.1, fun j x l h1 h2 => by
  obtain ⟨la, lc, e, hr⟩ := h.2 j x l h1 h2
  exact ⟨la, lc, e, hr.later hb⟩⟩
theorem Rws.grown {G : Nat → Prop} {w w' : World} {xs : List Value} {ls : List (List EntV)} {r : Option Nat} (h : Rws G w xs ls) (hg : w.grownBy w' r) (hG : ∀ b, G b → some b ≠ r) (hx : ∀ x ∈ xs, ∀ b, Refs x b → some b ≠ r) : Rws G w' xs ls := ⟨h.1, fun j x l h1 h2 => by
  obtain ⟨la, lc, e, hr⟩ := h.2 j x l h1 h2
  refine ⟨la, lc, e, hr.grown (by decide) hg hG fun b off ea hn => hx x (List.mem_of_getElem? h1) b ⟨off, l.length, lc, by rw [e, ea], hn⟩⟩⟩
theorem Rws.snoc {G : Nat → Prop} {w : World} {xs : List Value} {ls : List (List EntV)} {la : Option Addr} {lc : Nat} {l : List EntV} (h : Rws G w xs ls) (hr : RSG entE G w la l.length lc l) : Rws G w (xs ++ [.slice la l.length lc]) (ls ++ [l]) := by
  refine ⟨by rw [List.length_append, List.length_append, h.1]; rfl, fun j x l' h1 h2 => ?_⟩
  by_cases q : j < xs.length
  · rw [List.getElem?_append_left q] at h1
    rw [List.getElem?_append_left (by rw [← h.1]; exact q)] at h2
    exact h.2 j x l' h1 h2
  · have hj : j < (xs ++ [Value.slice la l.length lc]).length := (List.getElem?_eq_some_iff.1 h1).1
    rw [List.length_append, List.length_singleton] at hj
    obtain rfl : j = xs.length := by omega
    rw [List.getElem?_append_right (Nat.le_refl _), Nat.sub_self] at h1
    rw [h.1, List.getElem?_append_right (Nat.le_refl _), Nat.sub_self] at h2
    obtain rfl := by simpa using h1
    obtain rfl := by simpa using h2
    exact ⟨la, lc, rfl, hr⟩
theorem Rws.er {G : Nat → Prop} {B : Nat} {w : World} {v : Value} {xs : List Value} {ls : List (List EntV)} (h : Rws G w xs ls) (hr : RowS slvE B w v xs) : ∃ a c, v = .slice a ls.length c ∧ ErRow w a ls.length c ls := by
  obtain ⟨a, c, e, us, h1, h2, h3, h4, h5, h6⟩ := hr.rs
  obtain rfl := lay_slv h5
  rw [h.1] at e h2 h3
  refine ⟨a, c, e, ⟨rfl, h3, h4⟩, h2, fun k l hl => ?_⟩
  have hk : k < us.length := by rw [h.1]; exact (List.getElem?_eq_some_iff.1 hl).1
  obtain ⟨b, off, ea, hc⟩ := h6 k _ (List.getElem?_eq_getElem hk)
  obtain ⟨la, lc, ex, hrl⟩ := h.2 k _ l (List.getElem?_eq_getElem hk) hl
  exact ⟨b, off, la, lc, ea, by rw [hc, ex], hrl.rs⟩
end Go.Proofs.Ytnoackenjfpcmaa

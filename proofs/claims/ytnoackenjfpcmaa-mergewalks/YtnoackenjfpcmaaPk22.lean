import Derived.Test.YtnoackenjfpcmaaPk08
import Derived.Test.YtnoackenjfpcmaaPk12
import Derived.Test.YtnoackenjfpcmaaPk15
import Derived.Test.YtnoackenjfpcmaaPk21
/- The landed merge: the iterator. -/
namespace Go.Proofs.Ytnoackenjfpcmaa
open Go.RowKit
set_option linter.unusedVariables false
set_option linter.unusedSimpArgs false

def ptI (p : Nat) : Value := .pointer (some ⟨p, 0, none⟩)
def ItM (w : World) (p : Nat) (a : Option Addr) (n c k : Nat) : Prop := w.heap[p]? = some (.cells #[.slice a n c, .int .i64 (k : Int)] 61 (0, 0))
theorem ItM.lt {w : World} {p : Nat} {a : Option Addr} {n c k : Nat} (h : ItM w p a n c k) : p < w.heap.size := (Array.getElem?_eq_some_iff.1 h).1
theorem ItM.later {w w' : World} {p : Nat} {a : Option Addr} {n c k : Nat} (h : ItM w p a n c k) (hb : Below w.heap.size w w') : ItM w' p a n c k := by
  unfold ItM
  rw [hb.block p h.lt]; exact h
theorem ItM.cells {w : World} {p : Nat} {a : Option Addr} {n c k : Nat} (h : ItM w p a n c k) : w.cell? ⟨p, 0, none⟩ = some (.slice a n c) ∧ w.cell? ⟨p, 1, none⟩ = some (.int .i64 (k : Int)) ∧ w.frozen? ⟨p, 1, none⟩ = false := by
  unfold ItM at h
  refine ⟨by rw [cell_of h]; rfl, by rw [cell_of h]; rfl, by simp [World.frozen?, h]⟩
theorem ItM.set {w : World} {p : Nat} {a : Option Addr} {n c k : Nat} (h : ItM w p a n c k) (j : Nat) : ItM (w.setCell ⟨p, 1, none⟩ (.int .i64 (j : Int))) p a n c j := by
  unfold ItM at h ⊢
  simp only [World.setCell, Array.getElem?_modify, if_true, h]
  rfl
theorem leftN_t (w : World) : Calls Try.prog 21 #[.pointer none] w fun e w' => e = .returned (.int .i64 0) ∧ w' = w := by
  go_enter Try.func21, Try.ntmps21
  go_wp2
  go_ret
  simp
set_option maxHeartbeats 1000000 in
theorem left_t {w : World} {p : Nat} {a : Option Addr} {n c k : Nat} (h : ItM w p a n c k) (hk : k ≤ n) (hn : n ≤ 2 ^ 60) :
    Calls Try.prog 21 #[ptI p] w fun e w' => e = .returned (.int .i64 ((n - k : Nat) : Int)) ∧ Below w.heap.size w w' := by
  obtain ⟨c0, c1, -⟩ := h.cells
  have hnk : ((n - k : Nat) : Int) = (n : Int) - (k : Int) := by omega
  rw [hnk]
  clear h
  unfold ptI
  go_enter Try.func21, Try.ntmps21
  go_wp2_with fail
  go_quiet (fail)
  go_wp2_with fail
  exact bodyPost_ret (v := .int .i64 ((n : Int) - (k : Int))) (by simp [results, Try.results21, go_sem]) rfl ⟨rfl, ⟨rfl, rfl, rfl, Nat.le_refl _, fun _ _ => rfl⟩⟩
theorem seekN_t (w : World) (a : Option Addr) (n c : Nat) : Calls Try.prog 17 #[.pointer none, .slice a n c] w fun e w' => e = .returned (.tuple #[]) ∧ Below w.heap.size w w' := by
  go_enter Try.func17, Try.ntmps17
  go_wp2_with fail
  exact bodyPost_ret (v := .tuple #[]) (by simp [results, Try.results17, go_sem]) rfl ⟨rfl, ((Below.refl _ _).alloc (Nat.le_refl _) _).alloc (by simp) _⟩
theorem nextN_t (w : World) : Calls Try.prog 19 #[.pointer none] w fun e w' => e = .returned (.tuple #[.agg #[.slice none 0 0, .int .i64 0, .bool false, .int .i64 0, .slice none 0 0], .bool false]) ∧ Below w.heap.size w w' := by
  go_enter Try.func19, Try.ntmps19
  go_wp2_with (go_at_call 21; refine (leftN_t _).mono ?_; rintro e w5 ⟨rfl, rfl⟩)
  exact bodyPost_ret (v := .tuple #[.agg #[.slice none 0 0, .int .i64 0, .bool false, .int .i64 0, .slice none 0 0], .bool false]) (by simp [results, Try.results19, go_sem]) rfl ⟨rfl, (Below.refl _ _).alloc (Nat.le_refl _) _⟩
set_option maxHeartbeats 1000000 in
/-- The law MergeNil. -/
theorem mgnil_any {w : World} {a : Option Addr} {n c : Nat} : Calls Try.prog 6 #[.slice a n c] w fun e w' => e = .returned (.bool true) ∧ Below w.heap.size w w' := by
  go_enter Try.func6, Try.ntmps6
  go_wp2_with (first | (go_at_call 17; refine (seekN_t _ _ _ _).mono ?_; rintro e w5 ⟨rfl, hb5⟩) | (go_at_call 19; refine (nextN_t _).mono ?_; rintro e w6 ⟨rfl, hb6⟩) | (go_at_call 21; refine (leftN_t _).mono ?_; rintro e w7 ⟨rfl, rfl⟩) | (go_at_call 10; refine (awake16_t _).mono ?_; rintro e w8 ⟨rfl, hb8⟩))
  have h6 := hb5.trans (hb6.mono hb5.size)
  have h7 := h6.alloc h6.size (.cells #[.slice none 0 0, .int .i64 0, .bool false, .int .i64 0, .slice none 0 0] 35)
  exact bodyPost_ret (v := .bool true) (by simp [results, Try.results6, go_sem]) rfl ⟨rfl, h7.trans (hb8.mono h7.size)⟩
end Go.Proofs.Ytnoackenjfpcmaa

/- The rows that the laws bring in order. -/
namespace Go.Proofs.Ytnoackenjfpcmaa
set_option linter.unusedVariables false
set_option linter.unusedSimpArgs false

def putS (s : List EntV) (e : EntV) : List EntV := if hasE s e = true then s else putE s e
def srtL (l : List EntV) : List EntV := (l.take 30).foldl putS []
def srtR : Nat → List (List EntV) → List (List EntV)
  | _, [] => []
  | i, l :: rs => (if i < 20 then srtL l else []) :: srtR (i + 1) rs
theorem putS_ord {s : List EntV} (h : ordE s) (e : EntV) : ordE (putS s e) := by
  unfold putS
  by_cases q : hasE s e = true
  · rw [if_pos q]; exact h
  · rw [if_neg q]; exact putE_ord h (by simpa using q)
theorem putS_len (s : List EntV) (e : EntV) : (putS s e).length ≤ s.length + 1 := by
  unfold putS
  split
  · omega
  · rw [putE_len]; omega
theorem foldS_ord : ∀ (l s : List EntV), ordE s → ordE (l.foldl putS s)
  | [], s, h => h
  | e :: r, s, h => foldS_ord r _ (putS_ord h e)
theorem foldS_len : ∀ (l s : List EntV), (l.foldl putS s).length ≤ s.length + l.length
  | [], s => by simp
  | e :: r, s => by
    rw [List.foldl_cons, List.length_cons]
    have h1 := foldS_len r (putS s e)
    have h2 := putS_len s e
    omega
theorem putS_mem {s : List EntV} {e x : EntV} (h : x ∈ putS s e) : x ∈ s ∨ x = e := by
  unfold putS at h
  split at h
  · exact .inl h
  · rcases List.mem_cons.1 ((putE_perm s e).mem_iff.1 h) with q | q
    · exact .inr q
    · exact .inl q
theorem foldS_mem : ∀ (l s : List EntV) {x : EntV}, x ∈ l.foldl putS s → x ∈ s ∨ x ∈ l
  | [], s, x, h => .inl h
  | e :: r, s, x, h => by
    rcases foldS_mem r _ h with q | q
    · rcases putS_mem q with q | q
      · exact .inl q
      · exact .inr (by simp [q])
    · exact .inr (List.mem_cons_of_mem _ q)
theorem srtL_ord (l : List EntV) : ordE (srtL l) := foldS_ord _ _ List.Pairwise.nil
theorem srtL_len (l : List EntV) : (srtL l).length ≤ 30 := by
  have h := foldS_len (l.take 30) []
  have : (l.take 30).length ≤ 30 := by rw [List.length_take]; omega
  unfold srtL
  simp at h
  omega
theorem srtL_mem {l : List EntV} {x : EntV} (h : x ∈ srtL l) : x ∈ l := by
  rcases foldS_mem _ _ h with q | q
  · cases q
  · exact List.mem_of_mem_take q
theorem srtR_len : ∀ (i : Nat) (rs : List (List EntV)), (srtR i rs).length = rs.length
  | _, [] => rfl
  | i, l :: rs => by rw [srtR, List.length_cons, srtR_len (i + 1) rs, List.length_cons]
theorem srtR_ord : ∀ (i : Nat) (rs : List (List EntV)), ∀ l ∈ srtR i rs, ordE l
  | _, [], l, h => by cases h
  | i, l' :: rs, l, h => by
    unfold srtR at h
    rcases List.mem_cons.1 h with rfl | h
    · split
      · exact srtL_ord _
      · exact List.Pairwise.nil
    · exact srtR_ord (i + 1) rs l h
theorem srtR_at : ∀ {i k : Nat} {rs : List (List EntV)} {l : List EntV}, rs[k]? = some l → (srtR i rs)[k]? = some (if i + k < 20 then srtL l else [])
  | i, 0, l' :: rs, l, h => by
    obtain rfl : l' = l := by simpa using h
    simp [srtR]
  | i, k + 1, l' :: rs, l, h => by
    have := srtR_at (i := i + 1) (k := k) (rs := rs) (by simpa using h)
    rw [srtR, List.getElem?_cons_succ, this, show i + 1 + k = i + (k + 1) by omega]
theorem srtR_small : ∀ (i : Nat) (rs : List (List EntV)), ∀ l ∈ srtR i rs, l.length ≤ 30
  | _, [], l, h => by cases h
  | i, l' :: rs, l, h => by
    unfold srtR at h
    rcases List.mem_cons.1 h with rfl | h
    · split
      · exact srtL_len _
      · simp
    · exact srtR_small (i + 1) rs l h
end Go.Proofs.Ytnoackenjfpcmaa

/- The rows that the laws bring in order: in memory. -/
namespace Go.Proofs.Ytnoackenjfpcmaa
open Go.RowKit
set_option linter.unusedVariables false
set_option linter.unusedSimpArgs false

/-- Values of one cell that name old memory alone. -/
def slvE : El Value where
  ty := 27
  size := 1
  M := fun w vs x => vs = [x] ∧ x.oneCell' = true ∧ ∀ b, Refs x b → b < w.heap.size
  len := fun h => by obtain ⟨rfl, _⟩ := h; rfl
  one := fun h v hv => by obtain ⟨rfl, h1, _⟩ := h; rw [List.mem_singleton.1 hv]; exact h1
  lt := fun h v hv b hr => by obtain ⟨rfl, _, h2⟩ := h; rw [List.mem_singleton.1 hv] at hr; exact h2 b hr
  keep := fun {w w' vs x} h hk => by
    obtain ⟨rfl, h1, h2⟩ := h
    refine ⟨rfl, h1, fun b hr => ?_⟩
    have e := hk x (by simp) b hr
    have hl := h2 b hr
    rw [Array.getElem?_eq_getElem hl] at e
    exact (Array.getElem?_eq_some_iff.1 e).1
theorem slvE_info : (Try.prog.info? slvE.ty).map (fun i => (i.zero, i.size, i.bytes)) = some (some (.slice none 0 0), slvE.size, 24) := by kernel_rfl
theorem lay_slv {w : World} : ∀ {us xs : List Value}, Lay slvE w us xs → us = xs
  | us, [], h => h
  | us, x :: xs, h => by
    obtain ⟨vs, us', rfl, ⟨e, _⟩, h2⟩ := h
    rw [e, lay_slv h2]; rfl
theorem RSG.grown {α : Type} {E : El α} (hp : 0 < E.size) {G : Nat → Prop} {w w' : World} {r : Option Nat} {ao : Option Addr} {n c : Nat} {xs : List α} (h : RSG E G w ao n c xs) (hg : w.grownBy w' r) (hG : ∀ b, G b → some b ≠ r) (ho : ∀ b off, ao = some ⟨b, off, none⟩ → 0 < n → some b ≠ r) : RSG E G w' ao n c xs := by
  obtain ⟨us, ⟨h1, h2, h3, h4, h5, h6⟩, hgs⟩ := h
  refine ⟨us, ⟨h1, h2, h3, h4, h5.keep fun u hu b hr => hg.block b (h5.lt u hu b hr) (hG b (hgs u hu b hr)), fun j u hu => ?_⟩, hgs⟩
  obtain ⟨b, off, e, hc⟩ := h6 j u hu
  have hn : 0 < n := by
    have hl := h5.len
    have hj := (List.getElem?_eq_some_iff.1 hu).1
    rcases Nat.eq_zero_or_pos n with z | z
    · rw [z] at h1
      rw [h1, Nat.zero_mul] at hl
      omega
    · exact z
  exact ⟨b, off, e, by rw [World.cell?_of_block (w := w) (a := ⟨b, off + j, none⟩) (hg.block b (World.block_lt_of_cell? _ _ hc) (ho b off e hn))]; exact hc⟩
/-- What the values of a row of one's own name. -/
def Rws (G : Nat → Prop) (w : World) (xs : List Value) (ls : List (List EntV)) : Prop := xs.length = ls.length ∧ ∀ (j : Nat) (x : Value) (l : List EntV), xs[j]? = some x → ls[j]? = some l → ∃ la lc, x = .slice la l.length lc ∧ RSG entE G w la l.length lc l
theorem Rws.later {G : Nat → Prop} {w w' : World} {xs : List Value} {ls : List (List EntV)} (h : Rws G w xs ls) (hb : Below w.heap.size w w') : Rws G w' xs ls := ⟨h.1, fun j x l h1 h2 => by
  obtain ⟨la, lc, e, hr⟩ := h.2 j x l h1 h2
  exact ⟨la, lc, e, hr.later hb⟩⟩
theorem Rws.grown {G : Nat → Prop} {w w' : World} {xs : List Value} {ls : List (List EntV)} {r : Option Nat} (h : Rws G w xs ls) (hg : w.grownBy w' r) (hG : ∀ b, G b → some b ≠ r) (hx : ∀ x ∈ xs, ∀ b, Refs x b → some b ≠ r) : Rws G w' xs ls := ⟨h.1, fun j x l h1 h2 => by
  obtain ⟨la, lc, e, hr⟩ := h.2 j x l h1 h2
  refine ⟨la, lc, e, hr.grown (by decide) hg hG fun b off ea hn => hx x (List.mem_of_getElem? h1) b ⟨off, l.length, lc, by rw [e, ea], hn⟩⟩⟩
theorem Rws.snoc {G : Nat → Prop} {w : World} {xs : List Value} {ls : List (List EntV)} {la : Option Addr} {lc : Nat} {l : List EntV} (h : Rws G w xs ls) (hr : RSG entE G w la l.length lc l) : Rws G w (xs ++ [.slice la l.length lc]) (ls ++ [l]) := by
  refine ⟨by rw [List.length_append, List.length_append, h.1]; rfl, fun j x l' h1 h2 => ?_⟩
  by_cases q : j < xs.length
  · rw [List.getElem?_append_left q] at h1
    rw [List.getElem?_append_left (by rw [← h.1]; exact q)] at h2
    exact h.2 j x l' h1 h2
  · have hj : j < (xs ++ [Value.slice la l.length lc]).length := (List.getElem?_eq_some_iff.1 h1).1
    rw [List.length_append, List.length_singleton] at hj
    obtain rfl : j = xs.length := by omega
    rw [List.getElem?_append_right (Nat.le_refl _), Nat.sub_self] at h1
    rw [h.1, List.getElem?_append_right (Nat.le_refl _), Nat.sub_self] at h2
    obtain rfl := by simpa using h1
    obtain rfl := by simpa using h2
    exact ⟨la, lc, rfl, hr⟩
theorem Rws.er {G : Nat → Prop} {B : Nat} {w : World} {v : Value} {xs : List Value} {ls : List (List EntV)} (h : Rws G w xs ls) (hr : RowS slvE B w v xs) : ∃ a c, v = .slice a ls.length c ∧ ErRow w a ls.length c ls := by
  obtain ⟨a, c, e, us, h1, h2, h3, h4, h5, h6⟩ := hr.rs
  obtain rfl := lay_slv h5
  rw [h.1] at e h2 h3
  refine ⟨a, c, e, ⟨rfl, h3, h4⟩, h2, fun k l hl => ?_⟩
  have hk : k < us.length := by rw [h.1]; exact (List.getElem?_eq_some_iff.1 hl).1
  obtain ⟨b, off, ea, hc⟩ := h6 k _ (List.getElem?_eq_getElem hk)
  obtain ⟨la, lc, ex, hrl⟩ := h.2 k _ l (List.getElem?_eq_getElem hk) hl
  exact ⟨b, off, la, lc, ea, by rw [hc, ex], hrl.rs⟩
end Go.Proofs.Ytnoackenjfpcmaa

import Derived.Test.YtnoackenjfpcmaaPk08
import Derived.Test.YtnoackenjfpcmaaPk12
import Derived.Test.YtnoackenjfpcmaaPk15
/- The rows that the laws bring in order. -/
namespace Go.Proofs.Ytnoackenjfpcmaa
set_option linter.unusedVariables false
set_option linter.unusedSimpArgs false

def putS (s : List EntV) (e : EntV) : List EntV := if hasE s e = true then s else putE s e
def srtL (l : List EntV) : List EntV := (l.take 30).foldl putS []
def srtR : Nat → List (List EntV) → List (List EntV)
  | _, [] => []
  | i, l :: rs => (if i < 20 then srtL l else []) :: srtR (i + 1) rs
theorem putS_ord {s : List EntV} (h : ordE s) (e : EntV) : ordE (putS s e) := by
  unfold putS
  by_cases q : hasE s e = true
  · rw [if_pos q]; exact h
  · rw [if_neg q]; exact putE_ord h (by simpa using q)
theorem putS_len (s : List EntV) (e : EntV) : (putS s e).length ≤ s.length + 1 := by
  unfold putS
  split
  · omega
  · rw [putE_len]; omega
theorem foldS_ord : ∀ (l s : List EntV), ordE s → ordE (l.foldl putS s)
  | [], s, h => h
  | e :: r, s, h => foldS_ord r _ (putS_ord h e)
theorem foldS_len : ∀ (l s : List EntV), (l.foldl putS s).length ≤ s.length + l.length
  | [], s => by simp
  | e :: r, s => by
    rw [List.foldl_cons, List.length_cons]
    have h1 := foldS_len r (putS s e)
    have h2 := putS_len s e
    omega
theorem putS_mem {s : List EntV} {e x : EntV} (h : x ∈ putS s e) : x ∈ s ∨ x = e := by
  unfold putS at h
  split at h
  · exact .inl h
  · rcases List.mem_cons.1 ((putE_perm s e).mem_iff.1 h) with q | q
    · exact .inr q
    · exact .inl q
theorem foldS_mem : ∀ (l s : List EntV) {x : EntV}, x ∈ l.foldl putS s → x ∈ s ∨ x ∈ l
  | [], s, x, h => .inl h
  | e :: r, s, x, h => by
    rcases foldS_mem r _ h with q | q
    · rcases putS_mem q with q | q
      · exact .inl q
      · exact .inr (by simp [q])
    · exact .inr (List.mem_cons_of_mem _ q)
theorem srtL_ord (l : List EntV) : ordE (srtL l) := foldS_ord _ _ List.Pairwise.nil
theorem srtL_len (l : List EntV) : (srtL l).length ≤ 30 := by
  have h := foldS_len (l.take 30) []
  have : (l.take 30).length ≤ 30 := by rw [List.length_take]; omega
  unfold srtL
  simp at h
  omega
theorem srtL_mem {l : List EntV} {x : EntV} (h : x ∈ srtL l) : x ∈ l := by
  rcases foldS_mem _ _ h with q | q
  · cases q
  · exact List.mem_of_mem_take q
theorem srtR_len : ∀ (i : Nat) (rs : List (List EntV)), (srtR i rs).length = rs.length
  | _, [] => rfl
  | i, l :: rs => by rw [srtR, List.length_cons, srtR_len (i + 1) rs, List.length_cons]
theorem srtR_ord : ∀ (i : Nat) (rs : List (List EntV)), ∀ l ∈ srtR i rs, ordE l
  | _, [], l, h => by cases h
  | i, l' :: rs, l, h => by
    unfold srtR at h
    rcases List.mem_cons.1 h with rfl | h
    · split
      · exact srtL_ord _
      · exact List.Pairwise.nil
    · exact srtR_ord (i + 1) rs l h
theorem srtR_at : ∀ {i k : Nat} {rs : List (List EntV)} {l : List EntV}, rs[k]? = some l → (srtR i rs)[k]? = some (if i + k < 20 then srtL l else [])
  | i, 0, l' :: rs, l, h => by
    obtain rfl : l' = l := by simpa using h
    simp [srtR]
  | i, k + 1, l' :: rs, l, h => by
    have := srtR_at (i := i + 1) (k := k) (rs := rs) (by simpa using h)
    rw [srtR, List.getElem?_cons_succ, this, show i + 1 + k = i + (k + 1) by omega]
theorem srtR_small : ∀ (i : Nat) (rs : List (List EntV)), ∀ l ∈ srtR i rs, l.length ≤ 30
  | _, [], l, h => by cases h
  | i, l' :: rs, l, h => by
    unfold srtR at h
    rcases List.mem_cons.1 h with rfl | h
    · split
      · exact srtL_len _
      · simp
    · exact srtR_small (i + 1) rs l h
end Go.Proofs.Ytnoackenjfpcmaa

/- The rows that the laws bring in order: in memory. -/
namespace Go.Proofs.Ytnoackenjfpcmaa
open Go.RowKit
set_option linter.unusedVariables false
set_option linter.unusedSimpArgs false

/-- Values of one cell that name old memory alone. -/
def slvE : El Value where
  ty := 27
  size := 1
  M := fun w vs x => vs = [x] ∧ x.oneCell' = true ∧ ∀ b, Refs x b → b < w.heap.size
  len := fun h => by obtain ⟨rfl, _⟩ := h; rfl
  one := fun h v hv => by obtain ⟨rfl, h1, _⟩ := h; rw [List.mem_singleton.1 hv]; exact h1
  lt := fun h v hv b hr => by obtain ⟨rfl, _, h2⟩ := h; rw [List.mem_singleton.1 hv] at hr; exact h2 b hr
  keep := fun {w w' vs x} h hk => by
    obtain ⟨rfl, h1, h2⟩ := h
    refine ⟨rfl, h1, fun b hr => ?_⟩
    have e := hk x (by simp) b hr
    have hl := h2 b hr
    rw [Array.getElem?_eq_getElem hl] at e
    exact (Array.getElem?_eq_some_iff.1 e).1
theorem slvE_info : (Try.prog.info? slvE.ty).map (fun i => (i.zero, i.size, i.bytes)) = some (some (.slice none 0 0), slvE.size, 24) := by kernel_rfl
theorem lay_slv {w : World} : ∀ {us xs : List Value}, Lay slvE w us xs → us = xs
  | us, [], h => h
  | us, x :: xs, h => by
    obtain ⟨vs, us', rfl, ⟨e, _⟩, h2⟩ := h
    rw [e, lay_slv h2]; rfl
theorem RSG.grown {α : Type} {E : El α} (hp : 0 < E.size) {G : Nat → Prop} {w w' : World} {r : Option Nat} {ao : Option Addr} {n c : Nat} {xs : List α} (h : RSG E G w ao n c xs) (hg : w.grownBy w' r) (hG : ∀ b, G b → some b ≠ r) (ho : ∀ b off, ao = some ⟨b, off, none⟩ → 0 < n → some b ≠ r) : RSG E G w' ao n c xs := by
  obtain ⟨us, ⟨h1, h2, h3, h4, h5, h6⟩, hgs⟩ := h
  refine ⟨us, ⟨h1, h2, h3, h4, h5.keep fun u hu b hr => hg.block b (h5.lt u hu b hr) (hG b (hgs u hu b hr)), fun j u hu => ?_⟩, hgs⟩
  obtain ⟨b, off, e, hc⟩ := h6 j u hu
  have hn : 0 < n := by
    have hl := h5.len
    have hj := (List.getElem?_eq_some_iff.1 hu).1
    rcases Nat.eq_zero_or_pos n with z | z
    · rw [z] at h1
      rw [h1, Nat.zero_mul] at hl
      omega
    · exact z
  exact ⟨b, off, e, by rw [World.cell?_of_block (w := w) (a := ⟨b, off + j, none⟩) (hg.block b (World.block_lt_of_cell? _ _ hc) (ho b off e hn))]; exact hc⟩
/-- What the values of a row of one's own name. -/
def Rws (G : Nat → Prop) (w : World) (xs : List Value) (ls : List (List EntV)) : Prop := xs.length = ls.length ∧ ∀ (j : Nat) (x : Value) (l : List EntV), xs[j]? = some x → ls[j]? = some l → ∃ la lc, x = .slice la l.length lc ∧ RSG entE G w la l.length lc l
theorem Rws.later {G : Nat → Prop} {w w' : World} {xs : List Value} {ls : List (List EntV)} (h : Rws G w xs ls) (hb : Below w.heap.size w w') : Rws G w' xs ls := ⟨h.1, fun j x l h1 h2 => by
  obtain ⟨la, lc, e, hr⟩ := h.2 j x l h1 h2
  exact ⟨la, lc, e, hr.later hb⟩⟩
theorem Rws.grown {G : Nat → Prop} {w w' : World} {xs : List Value} {ls : List (List EntV)} {r : Option Nat} (h : Rws G w xs ls) (hg : w.grownBy w' r) (hG : ∀ b, G b → some b ≠ r) (hx : ∀ x ∈ xs, ∀ b, Refs x b → some b ≠ r) : Rws G w' xs ls := ⟨h.1, fun j x l h1 h2 => by
  obtain ⟨la, lc, e, hr⟩ := h.2 j x l h1 h2
  refine ⟨la, lc, e, hr.grown (by decide) hg hG fun b off ea hn => hx x (List.mem_of_getElem? h1) b ⟨off, l.length, lc, by rw [e, ea], hn⟩⟩⟩
theorem Rws.snoc {G : Nat → Prop} {w : World} {xs : List Value} {ls : List (List EntV)} {la : Option Addr} {lc : Nat} {l : List EntV} (h : Rws G w xs ls) (hr : RSG entE G w la l.length lc l) : Rws G w (xs ++ [.slice la l.length lc]) (ls ++ [l]) := by
  refine ⟨by rw [List.length_append, List.length_append, h.1]; rfl, fun j x l' h1 h2 => ?_⟩
  by_cases q : j < xs.length
  · rw [List.getElem?_append_left q] at h1
    rw [List.getElem?_append_left (by rw [← h.1]; exact q)] at h2
    exact h.2 j x l' h1 h2
  · have hj : j < (xs ++ [Value.slice la l.length lc]).length := (List.getElem?_eq_some_iff.1 h1).1
    rw [List.length_append, List.length_singleton] at hj
    obtain rfl : j = xs.length := by omega
    rw [List.getElem?_append_right (Nat.le_refl _), Nat.sub_self] at h1
    rw [h.1, List.getElem?_append_right (Nat.le_refl _), Nat.sub_self] at h2
    obtain rfl := by simpa using h1
    obtain rfl := by simpa using h2
    exact ⟨la, lc, rfl, hr⟩
theorem Rws.er {G : Nat → Prop} {B : Nat} {w : World} {v : Value} {xs : List Value} {ls : List (List EntV)} (h : Rws G w xs ls) (hr : RowS slvE B w v xs) : ∃ a c, v = .slice a ls.length c ∧ ErRow w a ls.length c ls := by
  obtain ⟨a, c, e, us, h1, h2, h3, h4, h5, h6⟩ := hr.rs
  obtain rfl := lay_slv h5
  rw [h.1] at e h2 h3
  refine ⟨a, c, e, ⟨rfl, h3, h4⟩, h2, fun k l hl => ?_⟩
  have hk : k < us.length := by rw [h.1]; exact (List.getElem?_eq_some_iff.1 hl).1
  obtain ⟨b, off, ea, hc⟩ := h6 k _ (List.getElem?_eq_getElem hk)
  obtain ⟨la, lc, ex, hrl⟩ := h.2 k _ l (List.getElem?_eq_getElem hk) hl
  exact ⟨b, off, la, lc, ea, by rw [hc, ex], hrl.rs⟩
end Go.Proofs.Ytnoackenjfpcmaa

/- The law's sorted. -/
namespace Go.Proofs.Ytnoackenjfpcmaa
open Go.RowKit
set_option linter.unusedVariables false
set_option linter.unusedSimpArgs false

/-- What a row has come to behind j entries. -/
def sJ (k j : Nat) (l : List EntV) : List EntV := if k < 20 then ((l.take j).take 30).foldl putS [] else []
theorem sJ_ord (k j : Nat) (l : List EntV) : ordE (sJ k j l) := by
  unfold sJ; split
  · exact foldS_ord _ _ List.Pairwise.nil
  · exact List.Pairwise.nil
theorem sJ_len (k j : Nat) (l : List EntV) : (sJ k j l).length ≤ 30 := by
  unfold sJ; split
  · have h := foldS_len ((l.take j).take 30) []
    have : ((l.take j).take 30).length ≤ 30 := by rw [List.length_take]; omega
    simp at h
    omega
  · simp
theorem sJ_step {k j : Nat} {l : List EntV} {e : EntV} (h : l[j]? = some e) (hk : k < 20) (hj : j < 30) : sJ k (j + 1) l = putS (sJ k j l) e := by
  unfold sJ
  obtain ⟨hl, rfl⟩ := List.getElem?_eq_some_iff.1 h
  rw [if_pos hk, if_pos hk, List.take_take, List.take_take, show min 30 (j + 1) = j + 1 by omega, show min 30 j = j by omega, List.take_add_one, List.getElem?_eq_getElem hl, List.foldl_append]
  rfl
theorem sJ_stay {k j : Nat} (l : List EntV) (h : ¬ (k < 20 ∧ j < 30)) : sJ k (j + 1) l = sJ k j l := by
  unfold sJ
  by_cases hk : k < 20
  · rw [if_pos hk, if_pos hk, List.take_take, List.take_take, show min 30 (j + 1) = 30 by omega, show min 30 j = 30 by omega]
  · rw [if_neg hk, if_neg hk]
theorem sJ_end (k : Nat) (l : List EntV) : sJ k l.length l = if k < 20 then srtL l else [] := by
  unfold sJ srtL
  rw [List.take_length]
set_option maxHeartbeats 8000000 in
set_option maxRecDepth 100000 in
theorem sorted16_t {w : World} {ao : Option Addr} {n cap : Nat} {rs : List (List EntV)} (h : ErRow w ao n cap rs) (hn : n ≤ 1000000) :
    Calls Try.prog 11 #[.slice ao n cap] w fun e w' => ∃ a' c', e = .returned (.slice a' n c') ∧ ErRow w' a' n c' (srtR 0 rs) ∧ Below w.heap.size w w' := by
  have H0 := hid h
  obtain ⟨SR, hSR⟩ : ∃ S, S = srtR 0 rs := ⟨_, rfl⟩
  have HSR := hid hSR
  have HLN : Hid (SR.length = n ∧ rs.length = n) := ⟨by rw [hSR, srtR_len]; exact h.len.1, h.len.1⟩
  rw [← hSR]
  clear h hSR
  go_enter Try.func11, Try.ntmps11
  go_wp2_with fail
  go_loopg [3, 11] n (fun kx s3 s11 wr => ∃ (k : Nat) (xs : List Value), s11 = .int .i64 k ∧ k + kx = n ∧ Hid (RowS slvE w.heap.size wr s3 xs ∧ Rws (fun b => b < w.heap.size) wr xs (SR.take k) ∧ Below w.heap.size w wr))
  case atStart => exact ⟨0, [], rfl, by omega, RowS.nil _ _, ⟨rfl, fun j x l h1 h2 => by simp at h1⟩, Below.refl _ _⟩
  case round =>
    obtain ⟨k, xs, rfl, hg, HK⟩ := hrel
    obtain ⟨oa, on, oc, hoe, hon⟩ : ∃ a n c, u3 = .slice a n c ∧ n = xs.length := by
      obtain ⟨a, c, e, _⟩ := HK.out.1.rs
      exact ⟨a, _, c, e, rfl⟩
    subst hoe
    have HON := hid hon
    clear hon
    by_cases hk : k < n
    · have hk' : (k : Int) < (n : Int) := by omega
      obtain ⟨l, hl⟩ : ∃ l, rs[k]? = some l := ⟨_, List.getElem?_eq_getElem (by have := HLN.out; omega)⟩
      obtain ⟨b, off, la, lc, rfl, c0, hrl⟩ := H0.out.at' k l hl
      replace c0 := cell_later HK.out.2.2 c0
      have HSK : Hid (SR.take (k + 1) = SR.take k ++ [if k < 20 then srtL l else []]) := by
        have h1 := srtR_at (i := 0) hl
        rw [← HSR.out, Nat.zero_add] at h1
        obtain ⟨hs, e⟩ := List.getElem?_eq_some_iff.1 h1
        show _ = _
        rw [List.take_add_one, List.getElem?_eq_getElem hs, e]; rfl
      have HRL : Hid (RSG entE (fun b => b < w.heap.size) w la l.length lc l) := RSG.any hrl
      have hll : l.length ≤ 2 ^ 63 - 1 := by have := hrl.len; unfold maxLen at this; omega
      have HGK := hid (And.intro hg hk)
      obtain ⟨L, hL⟩ : ∃ L, L = l.length := ⟨_, rfl⟩
      have HLE := hid hL
      rw [← hL] at c0 hll
      obtain ⟨W0, hW0⟩ : ∃ W0, W0 = wr := ⟨_, rfl⟩
      have HK0 : Hid (RowS slvE w.heap.size W0 (.slice oa on oc) xs ∧ Rws (fun b => b < w.heap.size) W0 xs (SR.take k) ∧ Below w.heap.size w W0) := by rw [hW0]; exact HK.out
      have HW00 : Hid (Below W0.heap.size W0 wr) := by rw [hW0]; exact Below.refl _ _
      have HBW : Hid (∀ wx, Below W0.heap.size W0 wx → Below w.heap.size w wx) := fun wx hb => HK0.out.2.2.trans (hb.mono HK0.out.2.2.size)
      have hk62 : k ≤ 1000000 := by omega
      clear hg hk hl hrl hL HK hW0
      go_wp2_with fail
      go_loopg [6, 18] L (fun kx s6 s18 wx => ∃ (j : Nat) (sa : Option Addr) (sn sc : Nat), s18 = .int .i64 j ∧ s6 = .slice sa sn sc ∧ j + kx = L ∧ Hid (sn = (sJ k j l).length ∧ RSG entE (fun b => b < w.heap.size) wx sa sn sc (sJ k j l) ∧ (∀ b off, sa = some ⟨b, off, none⟩ → W0.heap.size ≤ b) ∧ Below W0.heap.size W0 wx))
      case atStart =>
        have e0 : sJ k 0 l = [] := by unfold sJ; split <;> simp
        exact ⟨0, none, 0, 0, rfl, rfl, by omega, by rw [e0]; rfl, by rw [e0]; exact ⟨[], ⟨rfl, fun _ => ⟨rfl, rfl⟩, Nat.le_refl _, Nat.zero_le _, rfl, fun j u hu => by simp at hu⟩, fun u hu => by cases hu⟩, (fun b off q => by cases q), HW00.out⟩
      case round =>
        obtain ⟨j, sa, sn, sc, rfl, rfl, hg2, HJ⟩ := hrel
        by_cases hj : j < L
        · have hj' : (j : Int) < (L : Int) := by omega
          obtain ⟨e, he⟩ : ∃ e, l[j]? = some e := ⟨_, List.getElem?_eq_getElem (by have := HLE.out; omega)⟩
          obtain ⟨b2, off2, ka, kc, va, vc, hla, r0, r1, r2, r3, r4, hM, -, gq⟩ := RSG.ent HRL.out he
          subst hla
          have bw := HBW.out _ HJ.out.2.2.2
          replace r0 := cell_later bw r0
          replace r1 := cell_later bw r1
          replace r2 := cell_later bw r2
          replace r3 := cell_later bw r3
          replace r4 := cell_later bw r4
          have hj62 : j ≤ 2 ^ 63 - 2 := by omega
          have HR := hid (And.intro hg2 (And.intro hj he))
          have hb1 : Below wr.heap.size wr (wr.alloc (.cells #[.slice ka e.key.length kc, .int .i64 e.seq, .bool e.gone, .int .i64 e.till, .slice va e.val.length vc] 35)) := (Below.refl _ _).alloc (Nat.le_refl _) _
          have hB1 := HJ.out.2.2.2.trans (hb1.mono HJ.out.2.2.2.size)
          have HPU : Hid (Calls Try.prog 24 #[.slice sa sn sc, .agg #[.slice ka e.key.length kc, .int .i64 e.seq, .bool e.gone, .int .i64 e.till, .slice va e.val.length vc]] (wr.alloc (.cells #[.slice ka e.key.length kc, .int .i64 e.seq, .bool e.gone, .int .i64 e.till, .slice va e.val.length vc] 35)) fun r w' => ∃ va2 vn2 vc2 ok, r = .returned (.tuple #[.slice va2 vn2 vc2, .bool ok]) ∧ vn2 = (putS (sJ k j l) e).length ∧ RSG entE (fun b => b < w.heap.size) w' va2 vn2 vc2 (putS (sJ k j l) e) ∧ (∀ b off, va2 = some ⟨b, off, none⟩ → W0.heap.size ≤ b) ∧ Below W0.heap.size W0 w') := by
            refine (rputE_any (HJ.out.2.1.later hb1) (El.later (E := entE) hM (HBW.out _ hB1)) (fun b hb => Nat.lt_of_lt_of_le hb (HBW.out _ hB1).size) gq (by have := sJ_len k j l; have := HJ.out.1; omega) (sJ_ord k j l)).mono ?_
            rintro r w' ⟨hb2, hh⟩
            have hB2 := hB1.trans (hb2.mono hB1.size)
            rcases hh with ⟨hq, rfl⟩ | ⟨hq, v, rfl, hr⟩
            · have ep : putS (sJ k j l) e = sJ k j l := by unfold putS; rw [if_pos hq]
              rw [ep]
              exact ⟨sa, sn, sc, false, rfl, HJ.out.1, (HJ.out.2.1.later hb1).later hb2, HJ.out.2.2.1, hB2⟩
            · have ep : putS (sJ k j l) e = putE (sJ k j l) e := by unfold putS; rw [if_neg (by rw [hq]; simp)]
              rw [ep]
              obtain ⟨va2, vc2, hv, hrg⟩ := hr.rsg
              refine ⟨va2, _, vc2, true, by rw [hv], rfl, hrg, fun b off ea => ?_, hB2⟩
              have ho : v.ownBlock = some b := by rw [hv, ea]; rfl
              have := (hr.own_lt ho).1
              exact Nat.le_trans hB1.size this
          have HBN : Hid (Below W0.heap.size W0 (wr.alloc (.cells #[.slice ka e.key.length kc, .int .i64 e.seq, .bool e.gone, .int .i64 e.till, .slice va e.val.length vc] 35))) := hB1
          have HSt : Hid (RSG entE (fun b => b < w.heap.size) (wr.alloc (.cells #[.slice ka e.key.length kc, .int .i64 e.seq, .bool e.gone, .int .i64 e.till, .slice va e.val.length vc] 35)) sa sn sc (sJ k j l)) := HJ.out.2.1.later hb1
          have HST := hid (fun (h1 : k < 20) (h2 : j < 30) => sJ_step he h1 h2)
          have t0 : (wr.alloc (.cells #[.slice ka e.key.length kc, .int .i64 e.seq, .bool e.gone, .int .i64 e.till, .slice va e.val.length vc] 35)).cell? ⟨wr.heap.size, 0, none⟩ = some (.slice ka e.key.length kc) := by rw [cell_of (heap_alloc_new wr _)]; rfl
          have t1 : (wr.alloc (.cells #[.slice ka e.key.length kc, .int .i64 e.seq, .bool e.gone, .int .i64 e.till, .slice va e.val.length vc] 35)).cell? ⟨wr.heap.size, 1, none⟩ = some (.int .i64 e.seq) := by rw [cell_of (heap_alloc_new wr _)]; rfl
          have t2 : (wr.alloc (.cells #[.slice ka e.key.length kc, .int .i64 e.seq, .bool e.gone, .int .i64 e.till, .slice va e.val.length vc] 35)).cell? ⟨wr.heap.size, 2, none⟩ = some (.bool e.gone) := by rw [cell_of (heap_alloc_new wr _)]; rfl
          have t3 : (wr.alloc (.cells #[.slice ka e.key.length kc, .int .i64 e.seq, .bool e.gone, .int .i64 e.till, .slice va e.val.length vc] 35)).cell? ⟨wr.heap.size, 3, none⟩ = some (.int .i64 e.till) := by rw [cell_of (heap_alloc_new wr _)]; rfl
          have t4 : (wr.alloc (.cells #[.slice ka e.key.length kc, .int .i64 e.seq, .bool e.gone, .int .i64 e.till, .slice va e.val.length vc] 35)).cell? ⟨wr.heap.size, 4, none⟩ = some (.slice va e.val.length vc) := by rw [cell_of (heap_alloc_new wr _)]; rfl
          obtain ⟨PS, hPS⟩ : ∃ P, P = putS (sJ k j l) e := ⟨_, rfl⟩
          rw [← hPS] at HPU HST
          clear hPS hM gq bw hb1 hB1 hg2 hj he
          generalize e.key.length = kl at r0 t0 t1 t2 t3 t4 HPU HBN HSt
          generalize e.seq = sq at r1 t0 t1 t2 t3 t4 HPU HBN HSt
          generalize e.gone = gn at r2 t0 t1 t2 t3 t4 HPU HBN HSt
          generalize e.till = tl at r3 t0 t1 t2 t3 t4 HPU HBN HSt
          generalize e.val.length = vl at r4 t0 t1 t2 t3 t4 HPU HBN HSt
          by_cases z1 : k < 20
          · have z1' : (k : Int) < 20 := by omega
            by_cases z2 : j < 30
            · have z2' : (j : Int) < 30 := by omega
              have HS2 := hid (HST.out z1 z2)
              clear z1 z2
              go_wp2_with (go_at_call 24; refine HPU.out.mono ?_; rintro r w5 ⟨va2, vn2, vc2, ok, rfl, hv2⟩; have HV := hid hv2; clear hv2)
              go_roundg (L - (j + 1))
              case measure => have := HR.out; omega
              case rel => exact ⟨j + 1, va2, vn2, vc2, by go_num, rfl, by have := HR.out; omega, by rw [HS2.out]; exact HV.out⟩
            · have z2' : ¬ (j : Int) < 30 := by omega
              have HS2 := hid (sJ_stay (k := k) (j := j) l (fun q => z2 q.2))
              clear z1 z2
              go_wp2_with fail
              go_roundg (L - (j + 1))
              case measure => have := HR.out; omega
              case rel => exact ⟨j + 1, sa, sn, sc, by go_num, rfl, by have := HR.out; omega, by rw [HS2.out]; exact ⟨HJ.out.1, HSt.out, HJ.out.2.2.1, HBN.out⟩⟩
          · have z1' : ¬ (k : Int) < 20 := by omega
            have HS2 := hid (sJ_stay (k := k) (j := j) l (fun q => z1 q.1))
            clear z1
            go_wp2_with fail
            go_roundg (L - (j + 1))
            case measure => have := HR.out; omega
            case rel => exact ⟨j + 1, sa, sn, sc, by go_num, rfl, by have := HR.out; omega, by rw [HS2.out]; exact ⟨HJ.out.1, HSt.out, HJ.out.2.2.1, HBN.out⟩⟩
        · have hj' : ¬ (j : Int) < (L : Int) := by omega
          obtain rfl : j = L := by omega
          have HE : Hid (sJ k j l = if k < 20 then srtL l else []) := by
            show _ = _
            rw [HLE.out]; exact sJ_end k l
          obtain ⟨X, hX⟩ : ∃ X, X = if k < 20 then srtL l else [] := ⟨_, rfl⟩
          rw [← hX] at HE HSK
          rw [HE.out] at HJ
          have hb1 : Below wr.heap.size wr (wr.alloc (.cells #[.slice sa sn sc] 27)) := (Below.refl _ _).alloc (Nat.le_refl _) _
          have hB1 := HJ.out.2.2.2.trans (hb1.mono HJ.out.2.2.2.size)
          have hap : RowS slvE w.heap.size (wr.alloc (.cells #[.slice sa sn sc] 27)) (.slice oa on oc) xs ∧ RSu slvE (wr.alloc (.cells #[.slice sa sn sc] 27)) (some ⟨wr.heap.size, 0, none⟩) 1 1 [.slice sa sn sc] [.slice sa sn sc] ∧ (∀ u ∈ [Value.slice sa sn sc], ∀ b, Refs u b → (Value.slice oa on oc).ownBlock ≠ some b) ∧ w.heap.size ≤ (wr.alloc (.cells #[.slice sa sn sc] 27)).heap.size ∧ Rws (fun b => b < w.heap.size) (wr.alloc (.cells #[.slice sa sn sc] 27)) xs (SR.take k) ∧ RSG entE (fun b => b < w.heap.size) (wr.alloc (.cells #[.slice sa sn sc] 27)) sa sn sc X ∧ Below w.heap.size w (wr.alloc (.cells #[.slice sa sn sc] 27)) := by
            refine ⟨HK0.out.1.later hB1, rs_one (E := slvE) ⟨rfl, rfl, fun b hr => ?_⟩, fun u hu b hr e => ?_, (HBW.out _ hB1).size, HK0.out.2.1.later hB1, HJ.out.2.1.later hb1, HBW.out _ hB1⟩
            · obtain ⟨off3, l3, c3, e3, h3⟩ := hr
              simp only [Value.slice.injEq] at e3
              obtain ⟨rfl, rfl, rfl⟩ := e3
              obtain ⟨us, ⟨q1, q2, q3, q4, q5, q6⟩, -⟩ := HJ.out.2.1
              have hlu := q5.len
              have h5 : entE.size = 5 := rfl
              rw [h5, q1] at hlu
              obtain ⟨b', off', e', hc⟩ := q6 0 _ (List.getElem?_eq_getElem (by omega))
              simp only [Option.some.injEq, Addr.mk.injEq, and_true] at e'
              obtain ⟨rfl, rfl⟩ := e'
              exact World.block_lt_of_cell? _ _ hc
            · rw [List.mem_singleton.1 hu] at hr
              obtain ⟨off3, l3, c3, e3, h3⟩ := hr
              simp only [Value.slice.injEq] at e3
              obtain ⟨rfl, rfl, rfl⟩ := e3
              have k1 := HJ.out.2.2.1 b off3 rfl
              have k2 := (HK0.out.1.own_lt e).2
              omega
          have HAP := hid hap
          have HXL : Hid (sn = X.length) := HJ.out.1
          have HGK2 := HGK
          clear hX hb1 hB1 hap hg2 hj HJ
          go_wp2_with (at_builtin; refine wpList_appS slvE (t := 22) (z := .slice none 0 0) (bytes := 24) Try.underlying22 slvE_info rfl (by decide) rfl (.tmp 36) (.tmp 38) rfl rfl HAP.out.1 rfl HAP.out.2.1 HAP.out.2.2.1 (by have := HAP.out.2.2.2.2.1.1; rw [this, List.length_take]; omega) (by have := HAP.out.2.2.2.2.1.1; rw [this, List.length_take]; omega) HAP.out.2.2.2.1 ?_; intro v9 w9 r9 g9 m9)
          go_roundg (n - (k + 1))
          case measure => have := HGK2.out; omega
          case rel =>
            have hGo : ∀ b, b < w.heap.size → some b ≠ (Value.slice oa on oc).ownBlock := fun b hb e => by have := (HAP.out.1.own_lt e.symm).1; omega
            have hR := HAP.out.2.2.2.2.1.grown g9 hGo fun x hx b hr e => by
              obtain ⟨us, _, hlay, hsep⟩ := HAP.out.1
              obtain rfl := lay_slv hlay
              exact hsep x hx b hr e.symm
            have hS := HAP.out.2.2.2.2.2.1.grown (by decide) g9 hGo fun b off ea hn0 e => HAP.out.2.2.1 (.slice sa sn sc) (List.mem_singleton.2 rfl) b ⟨off, sn, sc, by rw [ea], hn0⟩ e.symm
            have hsn : sn = X.length := HXL.out
            subst hsn
            exact ⟨k + 1, xs ++ [.slice sa X.length sc], by go_num, by have := HGK2.out; omega, r9, by rw [HSK.out]; exact hR.snoc hS, HAP.out.2.2.2.2.2.2.grown g9 HAP.out.2.2.2.1 fun z hz => (HAP.out.1.own_lt hz).1⟩
    · have hk' : ¬ (k : Int) < (n : Int) := by omega
      have HF : Hid (Rws (fun b => b < w.heap.size) wr xs SR) := by
        have := HK.out.2.1
        rwa [List.take_of_length_le (by have := HLN.out; omega)] at this
      have hfin := HF.out.er HK.out.1
      have HFI := hid hfin
      clear hg hk hfin
      go_wp2_with fail
      refine bodyPost_ret (v := .slice oa on oc) (by simp [results, Try.results11, go_sem]) rfl ?_
      obtain ⟨a', c', e, hr⟩ := HFI.out
      rw [HLN.out.1] at e hr
      exact ⟨a', c', by rw [e], hr, HK.out.2.2⟩
end Go.Proofs.Ytnoackenjfpcmaa

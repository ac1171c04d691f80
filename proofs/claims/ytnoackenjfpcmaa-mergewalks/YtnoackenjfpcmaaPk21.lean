import Derived.Deep.RegionHeldLaw
import Derived.Lib.SlBytesConst
import Derived.Test.YtnoackenjfpcmaaPk09
import Derived.Test.YtnoackenjfpcmaaPk15
import Derived.Test.YtnoackenjfpcmaaPk20
/- The landed block: which entry stands ahead; Ordered. -/
namespace Go.Proofs.Ytnoackenjfpcmaa
open Go.RowKit
set_option linter.unusedVariables false
set_option linter.unusedSimpArgs false

/-- Is the entry ahead of that key and number? -/
def ahK (e : EntV) (key : List Int) (s : Int) : Bool := decide (cmp e.key key < 0 ∨ cmp e.key key = 0 ∧ s < e.seq)
theorem ahK_ahead (a b : EntV) : ahK a b.key b.seq = true ↔ ahead a b < 0 := by
  unfold ahK ahead
  simp only [decide_eq_true_eq]
  have := cmp_vals a.key b.key
  by_cases h : cmp a.key b.key = 0
  · rw [if_neg (not_not_intro h)]
    by_cases q : b.seq < a.seq
    · simp [h, q]
    · rw [if_neg q]
      have : ¬ ((if a.seq < b.seq then (1 : Int) else 0) < 0) := by split <;> decide
      simp [h, q, this]
  · rw [if_pos h]
    simp [h]

set_option maxHeartbeats 2000000 in
set_option maxRecDepth 100000 in
theorem ahd_k {w : World} {ka va ba : Option Addr} {kc vc lb cb : Nat} {e : EntV} {key : List Int} {s : Int} (hk : Sl w ka e.key.length kc e.key) (hb : Sl w ba lb cb key) :
    Calls Try.prog 31 #[entA ka kc va vc e, .slice ba lb cb, .int .i64 s] w fun r w' => r = .returned (.bool (ahK e key s)) ∧ Below w.heap.size w w' := by
  obtain ⟨k0, seq, gone, till, vl⟩ := e
  unfold entA ahK
  simp only at hk ⊢
  obtain ⟨W, hW⟩ : ∃ W, W = w.alloc (.cells #[.slice ka k0.length kc, .int .i64 seq, .bool gone, .int .i64 till, .slice va vl.length vc] 35) := ⟨_, rfl⟩
  have b1 : Below w.heap.size w W := by rw [hW]; exact (Below.refl _ _).alloc (Nat.le_refl _) _
  have hc := compare_l (hk.later b1) (hb.later b1)
  have y1 : W.cell? ⟨w.heap.size, 1, none⟩ = some (.int .i64 seq) := by rw [hW, cell_of (heap_alloc_new w _)]; rfl
  have HB := hid b1
  have hv := cmp_vals k0 key
  generalize cmp k0 key = c at hc hv ⊢
  generalize k0.length = kl at hc hW
  generalize vl.length = ln at hW
  rw [hW] at hc y1 HB
  clear hk hb b1 hW
  go_enter Try.func31, Try.ntmps31
  rcases hv with rfl | rfl | rfl
  · go_wp2_with (go_at_call 29; refine hc.mono ?_; rintro e w' ⟨rfl, hw⟩; obtain rfl := hw.symm)
    exact bodyPost_ret (v := .bool true) (by simp [results, Try.results31, go_sem]) rfl ⟨by simp, HB.out⟩
  · by_cases q : s < seq
    · go_wp2_with (go_at_call 29; refine hc.mono ?_; rintro e w' ⟨rfl, hw⟩; obtain rfl := hw.symm)
      exact bodyPost_ret (v := .bool true) (by simp [results, Try.results31, go_sem, q]) rfl ⟨by simp [q], HB.out⟩
    · go_wp2_with (go_at_call 29; refine hc.mono ?_; rintro e w' ⟨rfl, hw⟩; obtain rfl := hw.symm)
      exact bodyPost_ret (v := .bool false) (by simp [results, Try.results31, go_sem, q]) rfl ⟨by simp [q], HB.out⟩
  · go_wp2_with (go_at_call 29; refine hc.mono ?_; rintro e w' ⟨rfl, hw⟩; obtain rfl := hw.symm)
    exact bodyPost_ret (v := .bool false) (by simp [results, Try.results31, go_sem]) rfl ⟨by simp, HB.out⟩

set_option maxHeartbeats 4000000 in
set_option maxRecDepth 100000 in
theorem ord_k {w : World} {ao : Option Addr} {len cap : Nat} {l : List EntV} (h : RS entE w ao len cap l) (hl : len ≤ 1000000) :
    Calls Try.prog 25 #[.slice ao len cap] w fun r w' => r = .returned (.bool (ordB l)) ∧ Below w.heap.size w w' := by
  have HS : Hid (RS entE w ao len cap l ∧ True ∧ len ≤ 1000000) := ⟨h, trivial, hl⟩
  have hln : l.length = len := h.len.1
  have hl62 : len ≤ 2 ^ 61 := by omega
  clear h hl
  go_enter Try.func25, Try.ntmps25
  go_wp2_with fail
  go_loopg [3] len (fun g i wr => ∃ k : Nat, (k + g = len ∨ (k = 0 ∧ g = len)) ∧ i = .int .i64 ((k + 1 : Nat) : Int) ∧ Hid (Below w.heap.size w wr) ∧ Hid (∀ j (h : j + 1 < l.length), j < k → ahead l[j] l[j + 1] < 0))
  case atStart => exact ⟨0, .inr ⟨rfl, rfl⟩, rfl, Below.refl _ _, fun j _ h => absurd h (by omega)⟩
  case round =>
    obtain ⟨k, hk, rfl, HK, HC⟩ := hrel
    by_cases hkl : k + 1 < len
    · have hkl' : (k : Int) + 1 < (len : Int) := by omega
      have hdl : decide ((k : Int) + 1 < (len : Int)) = true := by simpa using hkl'
      have hx1 : k < l.length := by omega
      have hx2 : k + 1 < l.length := by omega
      obtain ⟨b, off, ka, kc, va, vc, hab, d0, d1, d2, d3, d4, s1, s2, i1, i2⟩ := RS.ent (HS.out.1.later HK.out) (List.getElem?_eq_getElem hx1)
      obtain ⟨b', off', kb, kd, vb, vd, hab', e0, e1, e2, e3, e4, t1, t2, j1, j2⟩ := RS.ent (HS.out.1.later HK.out) (List.getElem?_eq_getElem hx2)
      rw [hab] at hab'
      simp only [Option.some.injEq, Addr.mk.injEq, and_true] at hab'
      obtain ⟨rfl, rfl⟩ := hab'
      subst hab
      have hah := ahK_ahead l[k] l[k + 1]
      have HN : Hid (ahK l[k] l[k + 1].key l[k + 1].seq = false → ordB l = false) := fun q => ordB_not hx2 (fun q2 => by rw [hah.2 q2] at q; cases q)
      have HP : Hid (ahK l[k] l[k + 1].key l[k + 1].seq = true → ∀ j (h : j + 1 < l.length), j < k + 1 → ahead l[j] l[j + 1] < 0) := fun q j hj hjk => if e : j = k then by subst e; exact hah.1 q else HC.out j hj (by omega)
      have hA := ahd_k (va := va) (vc := vc) (s := l[k + 1].seq) (s1.drewN 1) (t1.drewN 1)
      unfold entA at hA
      clear hah
      generalize ahK l[k] l[k + 1].key l[k + 1].seq = c at hA HN HP
      generalize l[k] = o at d0 d1 d2 d3 d4 hA
      generalize l[k + 1] = o' at e0 e1 e2 e3 e4 hA
      generalize o.key.length = kl at d0 hA
      generalize o.val.length = ln at d4 hA
      generalize o.seq = seq at d1 hA
      generalize o.gone = gone at d2 hA
      generalize o.till = till at d3 hA
      generalize o'.key.length = kl2 at e0 hA
      generalize o'.seq = seq2 at e1 hA
      have hk62 : k ≤ 2 ^ 60 := by have := HS.out.2.2; omega
      have hwa : IntKind.i64.wrap ((k : Int) + 1 - 1) = (k : Int) := by rw [IntKind.wrap_i64]; omega
      have hwb : wrap64 ((k : Int) + 1 - 1) = (k : Int) := by unfold wrap64; omega
      have hwc : IntKind.i64.wrap (k : Int) = (k : Int) := by rw [IntKind.wrap_i64]; omega
      have hwd : wrap64 (k : Int) = (k : Int) := by unfold wrap64; omega
      have hkl0 : (k : Int) < (len : Int) := by omega
      have hkl3 : k < len := by omega
      obtain ⟨GK, HG⟩ : ∃ g, Hid (g < gk ∧ k + 1 + g = len) := ⟨len - (k + 1), by omega, by omega⟩
      have HKB : Hid (∀ wx, Below wr.drew.heap.size wr.drew wx → Below w.heap.size w wx) := fun wx hb => HK.out.drew.trans (hb.mono HK.out.drew.size)
      clear s1 s2 i1 i2 t1 t2 j1 j2 hk e2 e3 e4
      go_wp2_with fail
      go_region_held_law (fun w' => (w'.cell? ⟨b, off + k * 5, none⟩ = some (.slice ka kl kc) ∧ w'.cell? ⟨b, off + k * 5 + 1, none⟩ = some (.int .i64 seq) ∧ w'.cell? ⟨b, off + k * 5 + 2, none⟩ = some (.bool gone) ∧ w'.cell? ⟨b, off + k * 5 + 3, none⟩ = some (.int .i64 till) ∧ w'.cell? ⟨b, off + k * 5 + 4, none⟩ = some (.slice va ln vc)) ∧ (w'.cell? ⟨b, off + (k + 1) * 5, none⟩ = some (.slice kb kl2 kd) ∧ w'.cell? ⟨b, off + (k + 1) * 5 + 1, none⟩ = some (.int .i64 seq2))) (first | exact ⟨⟨d0, d1, d2, d3, d4⟩, ⟨e0, e1⟩⟩ | exact ⟨⟨cell_later hb5 d0, cell_later hb5 d1, cell_later hb5 d2, cell_later hb5 d3, cell_later hb5 d4⟩, ⟨cell_later hb5 e0, cell_later hb5 e1⟩⟩) (first | (go_at_call 31; refine hA.mono ?_; rintro e w5 ⟨rfl, hb5⟩))
      all_goals
        cases c with
        | true =>
          go_wp2_with fail
          go_roundg GK
          case measure => exact HG.out.1
          case rel => exact ⟨k + 1, .inl HG.out.2, by go_num, HKB.out _ hb5, HP.out (by first | exact trivial | rfl)⟩
        | false =>
          go_wp2_with fail
          exact bodyPost_ret (v := .bool false) (by simp [results, Try.results25, go_sem]) rfl ⟨by rw [HN.out (by first | exact trivial | rfl)], HKB.out _ hb5⟩
    · have hkl' : (len : Int) ≤ (k : Int) + 1 := by omega
      have HT : Hid (ordB l = true) := ordB_chain fun j hj => HC.out j hj (by omega)
      clear hk hkl
      go_wp2_with fail
      exact bodyPost_ret (v := .bool true) (by simp [results, Try.results25, go_sem]) rfl ⟨by rw [HT.out], HK.out⟩
end Go.Proofs.Ytnoackenjfpcmaa

/- The landed merge: Merge. -/
namespace Go.Proofs.Ytnoackenjfpcmaa
open Go.RowKit
set_option linter.unusedVariables false
set_option linter.unusedSimpArgs false

def sumR (rs : List (List EntV)) : Nat := (rs.map List.length).sum
/-- What Merge answers. -/
def mrC (rs : List (List EntV)) : Nat := if rs.all ordB = true then (if 64 < rs.length ∨ 40000 < sumR rs then 13 else 0) else 11
def mrV (rs : List (List EntV)) : List EntV := if mrC rs = 0 then mrgE rs else []
theorem sumR_snoc (rs : List (List EntV)) (l : List EntV) : sumR (rs ++ [l]) = sumR rs + l.length := by unfold sumR; simp
theorem sumR_take : ∀ (rs : List (List EntV)) (k : Nat), sumR (rs.take k) ≤ sumR rs
  | [], k => by simp [sumR]
  | l :: rs, 0 => by simp [sumR]
  | l :: rs, k + 1 => by
    have := sumR_take rs k
    unfold sumR at *
    rw [List.take_succ_cons, List.map_cons, List.map_cons, List.sum_cons, List.sum_cons]
    omega
theorem all_ord {rs : List (List EntV)} (h : rs.all ordB = true) : ∀ l ∈ rs, ordE l := fun l hl => by
  have := List.all_eq_true.1 h l hl
  unfold ordB at this
  exact of_decide_eq_true (p := l.Pairwise fun a b => ahead a b < 0) this
theorem ord_all {rs : List (List EntV)} (h : ∀ l ∈ rs, ordE l) : rs.all ordB = true := List.all_eq_true.2 fun l hl => by unfold ordB; exact decide_eq_true (p := l.Pairwise fun a b => ahead a b < 0) (h l hl)
/-- What is asked of the rows' size. -/
structure Szr (rs : List (List EntV)) : Prop where
  len : rs.length ≤ 1000000
  row : ∀ l ∈ rs, l.length ≤ 1000000
  ent : ∀ l ∈ rs, ∀ e ∈ l, e.key.length ≤ 1000000 ∧ e.val.length ≤ 1000000
theorem Szr.sum {rs : List (List EntV)} (h : Szr rs) : sumR rs ≤ 1000000000000 := by
  have : ∀ (rs : List (List EntV)), (∀ l ∈ rs, l.length ≤ 1000000) → sumR rs ≤ rs.length * 1000000 := by
    intro rs
    induction rs with
    | nil => intro _; simp [sumR]
    | cons l r ih =>
      intro hr
      have h1 := ih fun l' hl => hr l' (List.mem_cons_of_mem _ hl)
      have h2 := hr l (List.mem_cons_self ..)
      unfold sumR at *
      rw [List.map_cons, List.sum_cons, List.length_cons, Nat.add_mul]
      omega
  have h1 := this rs h.row
  have h2 := h.len
  omega
set_option maxHeartbeats 4000000 in
set_option maxRecDepth 100000 in
theorem merge_t {w : World} {ao : Option Addr} {n cap : Nat} {rs : List (List EntV)} (h : ErRow w ao n cap rs) (hz : Szr rs) :
    Calls Try.prog 12 #[.slice ao n cap] w fun r w' => ∃ v, r = .returned (.tuple #[v, .int .i64 (mrC rs : Nat)]) ∧ RowS entE w.heap.size w' v (mrV rs) ∧ Below w.heap.size w w' := by
  have H0 := hidM h
  have HZ := hidM hz
  have HLN : Hid (rs.length = n ∧ n ≤ 1000000) := ⟨h.len.1, by have := hz.len; have := h.len.1; omega⟩
  have hn62 : n ≤ 2 ^ 60 := by have := HLN.out; omega
  have HF : Hid (∀ (wr : World) (c : Nat), mrC rs = c → c ≠ 0 → Below w.heap.size w wr → RowS entE w.heap.size wr (.slice none 0 0) (mrV rs)) := fun wr c hc h0 hb => by
    unfold mrV
    rw [hc, if_neg h0]
    exact RowS.nil _ _
  have HCC : Hid ((rs.all ordB = false → mrC rs = 11) ∧ (rs.all ordB = true → (64 < rs.length ∨ 40000 < sumR rs) → mrC rs = 13) ∧ (rs.all ordB = true → ¬ (64 < rs.length ∨ 40000 < sumR rs) → mrC rs = 0)) := by
    refine ⟨fun h1 => ?_, fun h1 h2 => ?_, fun h1 h2 => ?_⟩
    · unfold mrC; rw [h1]; rfl
    · unfold mrC; rw [if_pos h1, if_pos h2]
    · unfold mrC; rw [if_pos h1, if_neg h2]
  obtain ⟨C, hC⟩ : ∃ c, c = mrC rs := ⟨_, rfl⟩
  rw [← hC] at HCC ⊢
  have HEC := hidM hC
  clear h hz hC
  go_enter Try.func12, Try.ntmps12
  go_wp2_with fail
  go_loopg [4, 9] n (fun kx s4 s9 wr => ∃ (k tot : Nat), s9 = .int .i64 (k : Int) ∧ s4 = .int .i64 (tot : Int) ∧ k + kx = n ∧ Hid ((rs.take k).all ordB = true ∧ tot = sumR (rs.take k) ∧ Below w.heap.size w wr))
  case atStart => exact ⟨0, 0, rfl, rfl, by omega, by simp, by simp [sumR], Below.refl _ _⟩
  case round =>
    obtain ⟨k, tot, rfl, rfl, hg, HK⟩ := hrel
    have ht62 : tot ≤ 2 ^ 60 := by have := HK.out.2.1; have := sumR_take rs k; have := HZ.out.sum; omega
    by_cases hk : k < n
    · have hk' : (k : Int) < (n : Int) := by omega
      obtain ⟨l, hl⟩ : ∃ l, rs[k]? = some l := ⟨_, List.getElem?_eq_getElem (by have := HLN.out; omega)⟩
      obtain ⟨b, off, la, lc, rfl, c0, hrl⟩ := H0.out.at' k l hl
      replace c0 := cell_later HK.out.2.2 c0
      have hlm := List.mem_of_getElem? hl
      have hord := ord_k (hrl.later HK.out.2.2) (HZ.out.row l hlm)
      have hll : l.length ≤ 2 ^ 60 := by have := HZ.out.row l hlm; omega
      have HT1 : Hid (ordB l = true → (rs.take (k + 1)).all ordB = true ∧ tot + l.length = sumR (rs.take (k + 1))) := fun hb => by
        rw [List.take_add_one, hl]
        show (rs.take k ++ [l]).all ordB = true ∧ tot + l.length = sumR (rs.take k ++ [l])
        rw [List.all_append, HK.out.1, sumR_snoc, HK.out.2.1]
        exact ⟨by simp [hb], rfl⟩
      have HT2 : Hid (ordB l = false → C = 11) := fun hb => HCC.out.1 (by rw [List.all_eq_false]; exact ⟨l, hlm, by simp [hb]⟩)
      have HG := hidM (And.intro hg hk)
      have hk62 : k ≤ 2 ^ 60 := by omega
      generalize ordB l = ob at hord HT1 HT2
      generalize l.length = L at c0 hord hll HT1
      clear hg hk hl hrl hlm
      cases ob with
      | true =>
        have HT3 := hidM (HT1.out rfl)
        go_wp2_with (go_at_call 25; refine hord.mono ?_; rintro r w5 ⟨rfl, hb5⟩)
        go_roundg (n - (k + 1))
        case measure => have := HG.out; omega
        case rel => exact ⟨k + 1, tot + L, by go_num, by go_num, by have := HG.out; omega, HT3.out.1, HT3.out.2, HK.out.2.2.trans (hb5.mono HK.out.2.2.size)⟩
      | false =>
        have HT3 := hidM (HT2.out rfl)
        go_wp2_with (go_at_call 25; refine hord.mono ?_; rintro r w5 ⟨rfl, hb5⟩)
        have hb6 := HK.out.2.2.trans (hb5.mono HK.out.2.2.size)
        exact bodyPost_ret (v := .tuple #[.slice none 0 0, .int .i64 11]) (by simp [results, Try.results12, go_sem]) rfl ⟨_, by rw [HT3.out]; rfl, HF.out _ 11 (by rw [← HEC.out, HT3.out]) (by decide) hb6, hb6⟩
    · have hk' : ¬ (k : Int) < (n : Int) := by omega
      have HA : Hid (rs.all ordB = true ∧ tot = sumR rs) := by
        have h1 := HK.out.1
        have h2 := HK.out.2.1
        rw [List.take_of_length_le (by have := HLN.out; omega)] at h1 h2
        exact ⟨h1, h2⟩
      clear hg hk
      by_cases q64 : 64 < n
      · have q64' : (64 : Int) < (n : Int) := by omega
        have HT3 := hidM (HCC.out.2.1 HA.out.1 (.inl (by have := HLN.out; omega)))
        go_wp2_with fail
        exact bodyPost_ret (v := .tuple #[.slice none 0 0, .int .i64 13]) (by simp [results, Try.results12, go_sem]) rfl ⟨_, by rw [HT3.out]; rfl, HF.out _ 13 (by rw [← HEC.out, HT3.out]) (by decide) HK.out.2.2, HK.out.2.2⟩
      · have q64' : ¬ (64 : Int) < (n : Int) := by omega
        by_cases qt : 40000 < tot
        · have qt' : (40000 : Int) < (tot : Int) := by omega
          have HT3 := hidM (HCC.out.2.1 HA.out.1 (.inr (by have := HA.out.2; omega)))
          go_wp2_with fail
          exact bodyPost_ret (v := .tuple #[.slice none 0 0, .int .i64 13]) (by simp [results, Try.results12, go_sem]) rfl ⟨_, by rw [HT3.out]; rfl, HF.out _ 13 (by rw [← HEC.out, HT3.out]) (by decide) HK.out.2.2, HK.out.2.2⟩
        · have qt' : ¬ (40000 : Int) < (tot : Int) := by omega
          have HT3 := hidM (HCC.out.2.2 HA.out.1 (by have := HLN.out; have := HA.out.2; omega))
          have hm := merged_t (tot := tot) (H0.out.later HK.out.2.2) (by omega) (all_ord HA.out.1) HA.out.2.symm (by omega) HZ.out.ent
          clear q64 qt
          go_wp2_with (go_at_call 26; refine hm.mono ?_; rintro r w5 ⟨v, rfl, hr, hb5⟩)
          refine bodyPost_ret (v := .tuple #[v, .int .i64 0]) (by simp [results, Try.results12, go_sem]) rfl ⟨v, by rw [HT3.out]; rfl, ?_, HK.out.2.2.trans (hb5.mono HK.out.2.2.size)⟩
          have e0 : mrV rs = mrgE rs := by unfold mrV; rw [← HEC.out, HT3.out]; rfl
          rw [e0]
          exact hr.base HK.out.2.2.size
end Go.Proofs.Ytnoackenjfpcmaa

/- The laws of rows as one: what every program must know. -/
namespace Go.Proofs.Ytnoackenjfpcmaa
open Go.RowKit
set_option linter.unusedVariables false
set_option linter.unusedSimpArgs false

theorem rs_obj {α : Type} {E : El α} {W : World} {b : Nat} {vs : List Value} {t : TypeId} {f : Nat × Nat} {x : α} (h : W.heap[b]? = some (.cells vs.toArray t f)) (hM : E.M W vs x) : RS E W (some ⟨b, 0, none⟩) 1 1 [x] := by
  refine ⟨vs, rfl, (fun q => by cases q), Nat.le_refl _, by unfold maxLen; omega, ⟨vs, [], by simp, hM, rfl⟩, fun j u hu => ⟨_, _, rfl, ?_⟩⟩
  rw [Nat.zero_add]
  simp only [World.cell?, h]
  simpa using hu
theorem sl_obj {W : World} {b : Nat} {x : Int} {t : TypeId} {f : Nat × Nat} (h : W.heap[b]? = some (.cells #[.int .u8 x] t f)) (h0 : 0 ≤ x) (h1 : x < 256) : Sl W (some ⟨b, 0, none⟩) 1 1 [x] := by
  refine ⟨rfl, fun y hy => by rw [List.mem_singleton.1 hy]; omega, (fun q => by cases q), Nat.le_refl _, by unfold maxLen; omega, fun k hk => ?_⟩
  obtain rfl : k = 0 := by omega
  refine ⟨by simp [xof]; omega, b, 0, rfl, ?_⟩
  simp only [World.cell?, h]
  simp [xof]
  omega
def e5 : EntV := ⟨[97], 5, false, 0, []⟩
def e7 : EntV := ⟨[97], 7, false, 0, []⟩
theorem rows_e (w : World) : ErRow (((((((w.alloc (.cells #[.int .u8 97] 5 (1, 2))).alloc (.cells #[.int .u8 97] 5 (1, 2))).alloc (.cells #[.slice (some ⟨w.heap.size, 0, none⟩) 1 1, .int .i64 5, .bool false, .int .i64 0, .slice none 0 0] 35)).alloc
    (.cells #[.slice (some ⟨w.heap.size + 1, 0, none⟩) 1 1, .int .i64 7, .bool false, .int .i64 0, .slice none 0 0] 35)).alloc (.cells #[.slice (some ⟨w.heap.size, 0, none⟩) 1 1, .int .i64 5, .bool false, .int .i64 0, .slice none 0 0] 35)).alloc
    (.cells #[.slice (some ⟨w.heap.size + 1, 0, none⟩) 1 1, .int .i64 7, .bool false, .int .i64 0, .slice none 0 0] 35)).alloc (.cells #[.slice (some ⟨w.heap.size + 1 + 1 + 1 + 1, 0, none⟩) 1 1, .slice (some ⟨w.heap.size + 1 + 1 + 1 + 1 + 1, 0, none⟩) 1 1] 27)) (some ⟨w.heap.size + 1 + 1 + 1 + 1 + 1 + 1, 0, none⟩) 2 2 [[e5], [e7]] := by
  obtain ⟨w1, h1⟩ : ∃ x, x = w.alloc (.cells #[.int .u8 97] 5 (1, 2)) := ⟨_, rfl⟩
  obtain ⟨w2, h2⟩ : ∃ x, x = w1.alloc (.cells #[.int .u8 97] 5 (1, 2)) := ⟨_, rfl⟩
  obtain ⟨w3, h3⟩ : ∃ x, x = w2.alloc (.cells #[.slice (some ⟨w.heap.size, 0, none⟩) 1 1, .int .i64 5, .bool false, .int .i64 0, .slice none 0 0] 35) := ⟨_, rfl⟩
  obtain ⟨w4, h4⟩ : ∃ x, x = w3.alloc (.cells #[.slice (some ⟨w.heap.size + 1, 0, none⟩) 1 1, .int .i64 7, .bool false, .int .i64 0, .slice none 0 0] 35) := ⟨_, rfl⟩
  obtain ⟨w5, h5⟩ : ∃ x, x = w4.alloc (.cells #[.slice (some ⟨w.heap.size, 0, none⟩) 1 1, .int .i64 5, .bool false, .int .i64 0, .slice none 0 0] 35) := ⟨_, rfl⟩
  obtain ⟨w6, h6⟩ : ∃ x, x = w5.alloc (.cells #[.slice (some ⟨w.heap.size + 1, 0, none⟩) 1 1, .int .i64 7, .bool false, .int .i64 0, .slice none 0 0] 35) := ⟨_, rfl⟩
  obtain ⟨w7, h7⟩ : ∃ x, x = w6.alloc (.cells #[.slice (some ⟨w.heap.size + 1 + 1 + 1 + 1, 0, none⟩) 1 1, .slice (some ⟨w.heap.size + 1 + 1 + 1 + 1 + 1, 0, none⟩) 1 1] 27) := ⟨_, rfl⟩
  rw [← h1, ← h2, ← h3, ← h4, ← h5, ← h6, ← h7]
  have z1 : w1.heap.size = w.heap.size + 1 := by rw [h1]; simp
  have z2 : w2.heap.size = w.heap.size + 1 + 1 := by rw [h2]; simp [z1]
  have z3 : w3.heap.size = w.heap.size + 1 + 1 + 1 := by rw [h3]; simp [z2]
  have z4 : w4.heap.size = w.heap.size + 1 + 1 + 1 + 1 := by rw [h4]; simp [z3]
  have z5 : w5.heap.size = w.heap.size + 1 + 1 + 1 + 1 + 1 := by rw [h5]; simp [z4]
  have z6 : w6.heap.size = w.heap.size + 1 + 1 + 1 + 1 + 1 + 1 := by rw [h6]; simp [z5]
  have hb : ∀ (x : World) (o : Obj) (k : Nat), k < x.heap.size → (x.alloc o).heap[k]? = x.heap[k]? := fun x o k hk => ((Below.refl _ x).alloc (Nat.le_refl _) o).block k hk
  have k0 : w7.heap[w.heap.size]? = some (.cells #[.int .u8 97] 5 (1, 2)) := by
    rw [h7, hb _ _ _ (by omega), h6, hb _ _ _ (by omega), h5, hb _ _ _ (by omega), h4, hb _ _ _ (by omega), h3, hb _ _ _ (by omega), h2, hb _ _ _ (by omega), h1]; exact heap_alloc_new _ _
  have k1 : w7.heap[w.heap.size + 1]? = some (.cells #[.int .u8 97] 5 (1, 2)) := by
    rw [h7, hb _ _ _ (by omega), h6, hb _ _ _ (by omega), h5, hb _ _ _ (by omega), h4, hb _ _ _ (by omega), h3, hb _ _ _ (by omega), h2, ← z1]; exact heap_alloc_new _ _
  have k4 : w7.heap[w.heap.size + 1 + 1 + 1 + 1]? = some (.cells #[.slice (some ⟨w.heap.size, 0, none⟩) 1 1, .int .i64 5, .bool false, .int .i64 0, .slice none 0 0] 35) := by
    rw [h7, hb _ _ _ (by omega), h6, hb _ _ _ (by omega), h5, ← z4]; exact heap_alloc_new _ _
  have k5 : w7.heap[w.heap.size + 1 + 1 + 1 + 1 + 1]? = some (.cells #[.slice (some ⟨w.heap.size + 1, 0, none⟩) 1 1, .int .i64 7, .bool false, .int .i64 0, .slice none 0 0] 35) := by
    rw [h7, hb _ _ _ (by omega), h6, ← z5]; exact heap_alloc_new _ _
  have k6 : w7.heap[w.heap.size + 1 + 1 + 1 + 1 + 1 + 1]? = some (.cells #[.slice (some ⟨w.heap.size + 1 + 1 + 1 + 1, 0, none⟩) 1 1, .slice (some ⟨w.heap.size + 1 + 1 + 1 + 1 + 1, 0, none⟩) 1 1] 27) := by
    rw [h7, ← z6]; exact heap_alloc_new _ _
  have r4 : RS entE w7 (some ⟨w.heap.size + 1 + 1 + 1 + 1, 0, none⟩) 1 1 [e5] := rs_obj (vs := [.slice (some ⟨w.heap.size, 0, none⟩) 1 1, .int .i64 5, .bool false, .int .i64 0, .slice none 0 0]) k4 ⟨_, _, _, _, rfl, sl_obj k0 (by decide) (by decide), Sl.nil _, by unfold In64; decide, by unfold In64; decide⟩
  have r5 : RS entE w7 (some ⟨w.heap.size + 1 + 1 + 1 + 1 + 1, 0, none⟩) 1 1 [e7] := rs_obj (vs := [.slice (some ⟨w.heap.size + 1, 0, none⟩) 1 1, .int .i64 7, .bool false, .int .i64 0, .slice none 0 0]) k5 ⟨_, _, _, _, rfl, sl_obj k1 (by decide) (by decide), Sl.nil _, by unfold In64; decide, by unfold In64; decide⟩
  refine ⟨⟨rfl, Nat.le_refl _, by unfold maxLen; omega⟩, (fun q => by cases q), fun k l hl => ?_⟩
  match k, hl with
  | 0, hl =>
    obtain rfl : [e5] = l := by simpa using hl
    exact ⟨_, 0, _, _, rfl, by simp only [World.cell?, k6]; rfl, r4⟩
  | 1, hl =>
    obtain rfl : [e7] = l := by simpa using hl
    exact ⟨_, 0, _, _, rfl, by simp only [World.cell?, k6]; rfl, r5⟩
  | k + 2, hl => simp at hl
theorem ab_mrg : mrC [[e5], [e7]] = 0 ∧ mrV [[e5], [e7]] = [e7, e5] := by
  have hc : mrC [[e5], [e7]] = 0 := by
    unfold mrC
    rw [if_pos (ord_all fun l hl => by
      simp only [List.mem_cons, List.not_mem_nil, or_false] at hl
      rcases hl with rfl | rfl <;> exact List.pairwise_singleton _ _), if_neg (by unfold sumR; simp)]
  refine ⟨hc, ?_⟩
  unfold mrV
  rw [if_pos hc]
  refine (ordE_uniq ?_ (mrgE_wk fun l hl => ?_) ?_).symm
  · unfold ordE
    rw [List.pairwise_cons]
    refine ⟨fun a ha => ?_, List.pairwise_singleton _ _⟩
    rw [List.mem_singleton.1 ha]
    decide
  · simp only [List.mem_cons, List.not_mem_nil, or_false] at hl
    rcases hl with rfl | rfl <;> exact List.pairwise_singleton _ _
  · exact (List.Perm.swap e5 e7 []).trans (mrgE_perm [[e5], [e7]]).symm
set_option maxHeartbeats 4000000 in
set_option maxRecDepth 100000 in
theorem awake16_t (w : World) : Calls Try.prog 10 #[] w fun e w' => e = .returned (.bool true) ∧ Below w.heap.size w w' := by
  have hcv := fun (w : World) a l c => Lib.run_convert_bytes_const (P := Try.prog) w 33 5 a l c Try.underlying33 Try.underlying5
  have hcv2 : ∀ (w : World) X, (convert 33 33 (.slice (some ⟨w.heap.size + 1, 0, none⟩) 1 1)).run Try.prog ((w.alloc X).alloc (.cells #[.int .u8 97] 5)) = .ok (.slice (some ⟨w.heap.size + 1, 0, none⟩) 1 1) ((w.alloc X).alloc (.cells #[.int .u8 97] 5 (1, 2))) := fun w X => by
    have := Lib.run_convert_bytes_const (P := Try.prog) (w.alloc X) 33 5 #[.int .u8 97] 1 1 Try.underlying33 Try.underlying5
    simpa using this
  have hm := merge_t (rows_e w) ⟨by simp, by intro l hl; simp only [List.mem_cons, List.not_mem_nil, or_false] at hl; rcases hl with rfl | rfl <;> simp, by
    intro l hl e he
    simp only [List.mem_cons, List.not_mem_nil, or_false] at hl
    rcases hl with rfl | rfl <;> (rw [List.mem_singleton.1 he]; exact ⟨by decide, by decide⟩)⟩
  rw [ab_mrg.1, ab_mrg.2] at hm
  obtain ⟨W, hW⟩ : ∃ W, W = (((((((w.alloc (.cells #[.int .u8 97] 5 (1, 2))).alloc (.cells #[.int .u8 97] 5 (1, 2))).alloc (.cells #[.slice (some ⟨w.heap.size, 0, none⟩) 1 1, .int .i64 5, .bool false, .int .i64 0, .slice none 0 0] 35)).alloc
    (.cells #[.slice (some ⟨w.heap.size + 1, 0, none⟩) 1 1, .int .i64 7, .bool false, .int .i64 0, .slice none 0 0] 35)).alloc (.cells #[.slice (some ⟨w.heap.size, 0, none⟩) 1 1, .int .i64 5, .bool false, .int .i64 0, .slice none 0 0] 35)).alloc
    (.cells #[.slice (some ⟨w.heap.size + 1, 0, none⟩) 1 1, .int .i64 7, .bool false, .int .i64 0, .slice none 0 0] 35)).alloc (.cells #[.slice (some ⟨w.heap.size + 1 + 1 + 1 + 1, 0, none⟩) 1 1, .slice (some ⟨w.heap.size + 1 + 1 + 1 + 1 + 1, 0, none⟩) 1 1] 27)) := ⟨_, rfl⟩
  have HB : Hid (Below w.heap.size w W) := by
    show Below w.heap.size w W
    rw [hW]
    have hb : ∀ {x : World} (o : Obj), Below w.heap.size w x → Below w.heap.size w (x.alloc o) := fun o h => h.alloc h.size o
    exact hb _ (hb _ (hb _ (hb _ (hb _ (hb _ (hb _ (Below.refl _ _)))))))
  have HM : Hid (Calls Try.prog 12 #[.slice (some ⟨w.heap.size + 1 + 1 + 1 + 1 + 1 + 1, 0, none⟩) 2 2] W fun r w' => ∃ a c b off, r = .returned (.tuple #[.slice a 2 c, .int .i64 0]) ∧ a = some ⟨b, off, none⟩ ∧ w'.cell? ⟨b, off + 1, none⟩ = some (.int .i64 7) ∧ Below W.heap.size W w') := by
    show Calls _ _ _ _ _
    rw [hW]
    refine hm.mono ?_
    rintro r w' ⟨v, rfl, hr, hb⟩
    obtain ⟨a, c, rfl, hrs⟩ := hr.rs
    obtain ⟨b, off, ka, kc, va, vc, rfl, d0, d1, -⟩ := RS.ent hrs (i := 0) (o := e7) rfl
    exact ⟨_, c, b, off, rfl, rfl, by simpa [e7] using d1, hb⟩
  rw [hW] at HM
  have HW := hidM hW
  clear hm hW
  go_enter Try.func10, Try.ntmps10
  go_wp2_with (go_at_call 12; refine HM.out.mono ?_; rintro r w5 ⟨a, c, b, off, rfl, rfl, d1, hb5⟩)
  rw [← HW.out] at hb5
  exact bodyPost_ret (v := .bool true) (by simp [results, Try.results10, go_sem]) rfl ⟨rfl, HB.out.trans (hb5.mono HB.out.size)⟩
end Go.Proofs.Ytnoackenjfpcmaa

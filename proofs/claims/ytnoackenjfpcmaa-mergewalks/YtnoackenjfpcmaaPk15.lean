import Derived.Lib.BytesEntry
import Derived.Lib.IndexLaws
import Derived.Laws.Externs
import Derived.Test.YtnoackenjfpcmaaPk07
import Derived.Test.YtnoackenjfpcmaaPk10
import Derived.Test.YtnoackenjfpcmaaPk13
import Derived.Test.YtnoackenjfpcmaaPk14
/- The document's own Ordered, of any row. -/
namespace Go.Proofs.Ytnoackenjfpcmaa
open Go.RowKit
set_option linter.unusedVariables false
set_option linter.unusedSimpArgs false

theorem ord_chain : ∀ {l : List EntV}, (∀ j (h : j + 1 < l.length), ahead l[j] l[j + 1] < 0) → l.Pairwise fun a b => ahead a b < 0
  | [], _ => List.Pairwise.nil
  | [x], _ => by simp
  | x :: y :: r, h => by
    have hr : (y :: r).Pairwise fun a b => ahead a b < 0 := ord_chain fun j hj => by
      have := h (j + 1) (by simp at hj ⊢; omega)
      simpa using this
    have hxy : ahead x y < 0 := by simpa using h 0 (by simp)
    refine List.pairwise_cons.2 ⟨fun z hz => ?_, hr⟩
    rcases List.mem_cons.1 hz with rfl | q
    · exact hxy
    · exact ahead_trans hxy ((List.pairwise_cons.1 hr).1 z q)
theorem ordB_chain {l : List EntV} (h : ∀ j (h : j + 1 < l.length), ahead l[j] l[j + 1] < 0) : ordB l = true := by
  unfold ordB; exact decide_eq_true (ord_chain h)
theorem ordB_not {l : List EntV} {k : Nat} (hk : k + 1 < l.length) (h : ¬ ahead l[k] l[k + 1] < 0) : ordB l = false := by
  unfold ordB
  exact decide_eq_false fun q => h (List.pairwise_iff_getElem.1 q k (k + 1) (by omega) hk (by omega))

set_option maxHeartbeats 4000000 in
set_option maxRecDepth 100000 in
theorem rord_any {w : World} {ao : Option Addr} {len cap : Nat} {l : List EntV} (h : RS entE w ao len cap l) (hl : len ≤ 1000000) :
    Calls Try.prog 23 #[.slice ao len cap] w fun r w' => r = .returned (.bool (ordB l)) ∧ Below w.heap.size w w' := by
  have HS : Hid (RS entE w ao len cap l ∧ True ∧ len ≤ 1000000) := ⟨h, trivial, hl⟩
  have hln : l.length = len := h.len.1
  have hl62 : len ≤ 2 ^ 61 := by omega
  clear h hl
  go_enter Try.func23, Try.ntmps23
  go_wp2_with fail
  go_loopg [3] len (fun g i wr => ∃ k : Nat, (k + g = len ∨ (k = 0 ∧ g = len)) ∧ i = .int .i64 ((k + 1 : Nat) : Int) ∧ Hid (Below w.heap.size w wr) ∧ Hid (∀ j (h : j + 1 < l.length), j < k → ahead l[j] l[j + 1] < 0))
  case atStart => exact ⟨0, .inr ⟨rfl, rfl⟩, rfl, Below.refl _ _, fun j _ h => absurd h (by omega)⟩
  case round =>
    obtain ⟨k, hk, rfl, HK, HC⟩ := hrel
    by_cases hkl : k + 1 < len
    · have hkl' : (k : Int) + 1 < (len : Int) := by omega
      have hdl : decide ((k : Int) + 1 < (len : Int)) = true := by simpa using hkl'
      have hx1 : k < l.length := by omega
      have hx2 : k + 1 < l.length := by omega
      obtain ⟨b, off, ka, kc, va, vc, hab, d0, d1, d2, d3, d4, s1, s2, i1, i2⟩ := RS.ent (HS.out.1.later HK.out) (List.getElem?_eq_getElem hx1)
      obtain ⟨b', off', kb, kd, vb, vd, hab', e0, e1, e2, e3, e4, t1, t2, j1, j2⟩ := RS.ent (HS.out.1.later HK.out) (List.getElem?_eq_getElem hx2)
      rw [hab] at hab'
      simp only [Option.some.injEq, Addr.mk.injEq, and_true] at hab'
      obtain ⟨rfl, rfl⟩ := hab'
      subst hab
      have HN : Hid (¬ ahead l[k] l[k + 1] < 0 → ordB l = false) := ordB_not hx2
      have HP : Hid (ahead l[k] l[k + 1] < 0 → ∀ j (h : j + 1 < l.length), j < k + 1 → ahead l[j] l[j + 1] < 0) := fun q j hj hjk => if e : j = k then by subst e; exact q else HC.out j hj (by omega)
      have hA := rahead_any (va := va) (vc := vc) (vb := vb) (vd := vd) (s1.drewN 1) (t1.drewN 1)
      unfold entA at hA
      generalize ahead l[k] l[k + 1] = c at hA HN HP
      generalize l[k] = o at d0 d1 d2 d3 d4 hA
      generalize l[k + 1] = o' at e0 e1 e2 e3 e4 hA
      generalize o.key.length = kl at d0 hA
      generalize o.val.length = ln at d4 hA
      generalize o.seq = seq at d1 hA
      generalize o.gone = gone at d2 hA
      generalize o.till = till at d3 hA
      generalize o'.key.length = kl2 at e0 hA
      generalize o'.val.length = ln2 at e4 hA
      generalize o'.seq = seq2 at e1 hA
      generalize o'.gone = gone2 at e2 hA
      generalize o'.till = till2 at e3 hA
      have hk62 : k ≤ 2 ^ 60 := by have := HS.out.2.2; omega
      have hwa : IntKind.i64.wrap ((k : Int) + 1 - 1) = (k : Int) := by rw [IntKind.wrap_i64]; omega
      have hwb : wrap64 ((k : Int) + 1 - 1) = (k : Int) := by unfold wrap64; omega
      have hwc : IntKind.i64.wrap (k : Int) = (k : Int) := by rw [IntKind.wrap_i64]; omega
      have hwd : wrap64 (k : Int) = (k : Int) := by unfold wrap64; omega
      have hkl0 : (k : Int) < (len : Int) := by omega
      have hkl3 : k < len := by omega
      obtain ⟨GK, HG⟩ : ∃ g, Hid (g < gk ∧ k + 1 + g = len) := ⟨len - (k + 1), by omega, by omega⟩
      have HKB : Hid (∀ wx, Below wr.drew.heap.size wr.drew wx → Below w.heap.size w wx) := fun wx hb => HK.out.drew.trans (hb.mono HK.out.drew.size)
      clear s1 s2 i1 i2 t1 t2 j1 j2 hk
      go_wp2_with fail
      go_region_held_law (fun w' => (w'.cell? ⟨b, off + k * 5, none⟩ = some (.slice ka kl kc) ∧ w'.cell? ⟨b, off + k * 5 + 1, none⟩ = some (.int .i64 seq) ∧ w'.cell? ⟨b, off + k * 5 + 2, none⟩ = some (.bool gone) ∧ w'.cell? ⟨b, off + k * 5 + 3, none⟩ = some (.int .i64 till) ∧ w'.cell? ⟨b, off + k * 5 + 4, none⟩ = some (.slice va ln vc)) ∧ (w'.cell? ⟨b, off + (k + 1) * 5, none⟩ = some (.slice kb kl2 kd) ∧ w'.cell? ⟨b, off + (k + 1) * 5 + 1, none⟩ = some (.int .i64 seq2) ∧ w'.cell? ⟨b, off + (k + 1) * 5 + 2, none⟩ = some (.bool gone2) ∧ w'.cell? ⟨b, off + (k + 1) * 5 + 3, none⟩ = some (.int .i64 till2) ∧ w'.cell? ⟨b, off + (k + 1) * 5 + 4, none⟩ = some (.slice vb ln2 vd))) (first | exact ⟨⟨d0, d1, d2, d3, d4⟩, ⟨e0, e1, e2, e3, e4⟩⟩ | exact ⟨⟨cell_later hb5 d0, cell_later hb5 d1, cell_later hb5 d2, cell_later hb5 d3, cell_later hb5 d4⟩, ⟨cell_later hb5 e0, cell_later hb5 e1, cell_later hb5 e2, cell_later hb5 e3, cell_later hb5 e4⟩⟩) (first | (go_at_call 22; refine hA.mono ?_; rintro e w5 ⟨rfl, hb5⟩))
      by_cases hc : c < 0
      · have hge : decide (c ≥ 0) = false := by simp; omega
        have hge2 : decide (0 ≤ c) = false := by simp; omega
        go_wp2_with fail
        go_roundg GK
        case measure => exact HG.out.1
        case rel => exact ⟨k + 1, .inl HG.out.2, by go_num, HKB.out _ hb5, HP.out hc⟩
      · have hge : decide (c ≥ 0) = true := by simp; omega
        have hge2 : decide (0 ≤ c) = true := by simp; omega
        go_wp2_with fail
        exact bodyPost_ret (v := .bool false) (by simp [results, Try.results23, go_sem]) rfl ⟨by rw [HN.out hc], HKB.out _ hb5⟩
    · have hkl' : (len : Int) ≤ (k : Int) + 1 := by omega
      have HT : Hid (ordB l = true) := ordB_chain fun j hj => HC.out j hj (by omega)
      clear hk hkl
      go_wp2_with fail
      exact bodyPost_ret (v := .bool true) (by simp [results, Try.results23, go_sem]) rfl ⟨by rw [HT.out], HK.out⟩
end Go.Proofs.Ytnoackenjfpcmaa

/- A row of rows of entries: how it lies in memory; what the laws call light. -/
namespace Go.Proofs.Ytnoackenjfpcmaa
open Go.RowKit
set_option linter.unusedVariables false
set_option linter.unusedSimpArgs false

/-- A row of rows of entries that is read. -/
structure ErRow (w : World) (ao : Option Addr) (n cap : Nat) (rs : List (List EntV)) : Prop where
  len : rs.length = n ∧ n ≤ cap ∧ cap ≤ maxLen
  nil : ao = none → n = 0 ∧ cap = 0
  at' : ∀ (k : Nat) (l : List EntV), rs[k]? = some l → ∃ b off la lc, ao = some ⟨b, off, none⟩ ∧ w.cell? ⟨b, off + k, none⟩ = some (.slice la l.length lc) ∧ RS entE w la l.length lc l
theorem ErRow.later {w w' : World} {ao : Option Addr} {n cap : Nat} {rs : List (List EntV)} (h : ErRow w ao n cap rs) (hb : Below w.heap.size w w') : ErRow w' ao n cap rs := by
  refine ⟨h.len, h.nil, fun k l hl => ?_⟩
  obtain ⟨b, off, la, lc, e1, c0, hm⟩ := h.at' k l hl
  exact ⟨b, off, la, lc, e1, cell_later hb c0, hm.later hb⟩
def litE (l : List EntV) : Bool := l.all fun e => decide (e.key.length ≤ 600 ∧ e.val.length ≤ 2100)
def litW : Nat → Nat → List (List EntV) → Bool
  | _, _, [] => true
  | i, n, l :: rs => decide (i < 70 ∧ l.length ≤ 300 ∧ n + l.length ≤ 600) && (litE l && litW (i + 1) (n + l.length) rs)
theorem litW_ok : ∀ {i n : Nat} {rs : List (List EntV)}, litW i n rs = true → (rs = [] ∨ i + rs.length ≤ 70) ∧ n + (rs.map List.length).sum ≤ max n 600 ∧ ∀ l ∈ rs, l.length ≤ 300 ∧ ∀ e ∈ l, e.key.length ≤ 600 ∧ e.val.length ≤ 2100
  | i, n, [], _ => ⟨.inl rfl, by simp; omega, fun l hl => by cases hl⟩
  | i, n, l :: rs, h => by
    unfold litW at h
    simp only [Bool.and_eq_true, decide_eq_true_eq] at h
    obtain ⟨⟨h1, h2, h3⟩, h4, h5⟩ := h
    obtain ⟨k1, k2, k3⟩ := litW_ok h5
    refine ⟨.inr ?_, ?_, fun l' hl => ?_⟩
    · rcases k1 with rfl | k1
      · simp; omega
      · simp; omega
    · rw [List.map_cons, List.sum_cons]; omega
    · rcases List.mem_cons.1 hl with rfl | hl
      · refine ⟨h2, fun e he => ?_⟩
        unfold litE at h4
        simpa using List.all_eq_true.1 h4 e he
      · exact k3 l' hl
theorem drop_cons {α : Type} {l : List α} {k : Nat} {x : α} (h : l[k]? = some x) : l.drop k = x :: l.drop (k + 1) := by
  obtain ⟨hk, rfl⟩ := List.getElem?_eq_some_iff.1 h
  exact List.drop_eq_getElem_cons hk
theorem litW_drop {k m : Nat} {rs : List (List EntV)} {l : List EntV} (h : rs[k]? = some l) : litW k m (rs.drop k) = (decide (k < 70 ∧ l.length ≤ 300 ∧ m + l.length ≤ 600) && (litE l && litW (k + 1) (m + l.length) (rs.drop (k + 1)))) := by
  rw [drop_cons h]; rfl
set_option maxHeartbeats 8000000 in
set_option maxRecDepth 100000 in
theorem light16_t {w : World} {ao : Option Addr} {n cap : Nat} {rs : List (List EntV)} (h : ErRow w ao n cap rs) :
    Calls Try.prog 9 #[.slice ao n cap] w fun e w' => e = .returned (.bool (litW 0 0 rs)) ∧ Below w.heap.size w w' := by
  have hn63 : n ≤ 2 ^ 63 - 1 := by have := h.len; unfold maxLen at this; omega
  have H0 := hid h
  obtain ⟨T, hT⟩ : ∃ T, T = litW 0 0 rs := ⟨_, rfl⟩
  rw [← hT]
  have HT := hid hT
  clear h hT
  go_enter Try.func9, Try.ntmps9
  go_wp2_with fail
  go_loopg [3, 10] n (fun kx s3 s10 wr => ∃ (k m : Nat), s3 = .int .i64 m ∧ s10 = .int .i64 k ∧ k + kx = n ∧ m ≤ 600 ∧ Hid (T = litW k m (rs.drop k) ∧ Below w.heap.size w wr))
  case atStart => exact ⟨0, 0, rfl, rfl, by omega, by omega, by rw [List.drop_zero]; exact HT.out, Below.refl _ _⟩
  case round =>
    obtain ⟨k, m, rfl, rfl, hg, hm6, HK⟩ := hrel
    by_cases hk : k < n
    · have hk' : (k : Int) < (n : Int) := by omega
      obtain ⟨l, hl⟩ : ∃ l, rs[k]? = some l := ⟨_, List.getElem?_eq_getElem (by have := H0.out.len; omega)⟩
      obtain ⟨b, off, la, lc, rfl, c0, hrl⟩ := H0.out.at' k l hl
      replace c0 := cell_later HK.out.2 c0
      have HD : Hid (T = (decide (k < 70 ∧ l.length ≤ 300 ∧ m + l.length ≤ 600) && (litE l && litW (k + 1) (m + l.length) (rs.drop (k + 1))))) := by
        show _ = _
        rw [HK.out.1, litW_drop hl]
      have HRL := hid hrl
      have hll : l.length ≤ 2 ^ 63 - 1 := by have := hrl.len; unfold maxLen at this; omega
      have HLL := hid (And.intro hg hk)
      obtain ⟨L, hL⟩ : ∃ L, L = l.length := ⟨_, rfl⟩
      have HLE := hid hL
      rw [← hL] at c0 hll
      have HKB := hid HK.out.2
      have hk62 : k ≤ 2 ^ 63 - 2 := by omega
      clear hg hk hl hrl hL HK
      by_cases q70 : 70 ≤ k
      · have HF : Hid (T = false) := by show _ = _; rw [HD.out, decide_eq_false (by omega)]; rfl
        have q' : (70 : Int) ≤ (k : Int) := by omega
        go_wp2_with fail
        exact bodyPost_ret (v := .bool false) (by simp [results, Try.results9, go_sem]) rfl ⟨by rw [HF.out], HKB.out⟩
      · have q' : ¬ (70 : Int) ≤ (k : Int) := by omega
        by_cases q300 : 300 < L
        · have HF : Hid (T = false) := by show _ = _; rw [HD.out, decide_eq_false (by rw [← HLE.out]; omega)]; rfl
          have q2' : (300 : Int) < (L : Int) := by omega
          go_wp2_with fail
          exact bodyPost_ret (v := .bool false) (by simp [results, Try.results9, go_sem]) rfl ⟨by rw [HF.out], HKB.out⟩
        · have q2' : ¬ (300 : Int) < (L : Int) := by omega
          by_cases q600 : 600 < m + L
          · have HF : Hid (T = false) := by show _ = _; rw [HD.out, decide_eq_false (by rw [← HLE.out]; omega)]; rfl
            have q3' : (600 : Int) < (m : Int) + (L : Int) := by omega
            go_wp2_with fail
            exact bodyPost_ret (v := .bool false) (by simp [results, Try.results9, go_sem]) rfl ⟨by rw [HF.out], HKB.out⟩
          · have q3' : ¬ (600 : Int) < (m : Int) + (L : Int) := by omega
            have HD2 : Hid (T = (litE l && litW (k + 1) (m + L) (rs.drop (k + 1)))) := by
              show _ = _
              rw [HD.out, decide_eq_true (show k < 70 ∧ l.length ≤ 300 ∧ m + l.length ≤ 600 by rw [← HLE.out]; omega), ← HLE.out]; rfl
            have HQ := hid (show k < 70 ∧ L ≤ 300 ∧ m + L ≤ 600 by omega)
            clear q70 q300 q600
            go_wp2_with fail
            clear q' q2' q3'
            go_loopg [30] L (fun kx s30 wx => ∃ j : Nat, s30 = .int .i64 j ∧ j + kx = L ∧ Hid (litE (l.take j) = true ∧ Below w.heap.size w wx))
            case atStart => exact ⟨0, rfl, by omega, rfl, HKB.out⟩
            case round =>
              obtain ⟨j, rfl, hg2, HJ⟩ := hrel
              by_cases hj : j < L
              · have hj' : (j : Int) < (L : Int) := by omega
                obtain ⟨e, he⟩ : ∃ e, l[j]? = some e := ⟨_, List.getElem?_eq_getElem (by have := HLE.out; omega)⟩
                obtain ⟨b2, off2, ka, kc, va, vc, rfl, r0, r1, r2, r3, r4, -, -, -, -⟩ := RS.ent (HRL.out.later HJ.out.2) he
                have HB : Hid (∀ o, Below w.heap.size w (wr.alloc o)) := fun o => HJ.out.2.alloc HJ.out.2.size o
                have HX : Hid (litE (l.take (j + 1)) = decide (e.key.length ≤ 600 ∧ e.val.length ≤ 2100) ∧ (decide (e.key.length ≤ 600 ∧ e.val.length ≤ 2100) = false → litE l = false)) := by
                  obtain ⟨hjl, rfl⟩ := List.getElem?_eq_some_iff.1 he
                  refine ⟨?_, fun hf => ?_⟩
                  · have := HJ.out.1
                    unfold litE at this ⊢
                    rw [List.take_add_one, List.getElem?_eq_getElem hjl, List.all_append, this]
                    simp
                  · unfold litE
                    rw [List.all_eq_false]
                    exact ⟨l[j], List.getElem_mem hjl, by simpa using hf⟩
                have HR := hid (And.intro hg2 hj)
                have hj62 : j ≤ 2 ^ 60 := by have := HQ.out; omega
                generalize e.key.length = kl at r0 HX
                generalize e.val.length = vl at r4 HX
                generalize e.seq = sq at r1
                generalize e.gone = gn at r2
                generalize e.till = tl at r3
                clear hg2 hj he
                by_cases z1 : 600 < kl
                · have z1' : (600 : Int) < (kl : Int) := by omega
                  have HF : Hid (T = false) := by show _ = _; rw [HD2.out, HX.out.2 (decide_eq_false (by omega))]; rfl
                  go_wp2_with fail
                  exact bodyPost_ret (v := .bool false) (by simp [results, Try.results9, go_sem]) rfl ⟨by rw [HF.out], HB.out _⟩
                · have z1' : ¬ (600 : Int) < (kl : Int) := by omega
                  by_cases z2 : 2100 < vl
                  · have z2' : (2100 : Int) < (vl : Int) := by omega
                    have HF : Hid (T = false) := by show _ = _; rw [HD2.out, HX.out.2 (decide_eq_false (by omega))]; rfl
                    go_wp2_with fail
                    exact bodyPost_ret (v := .bool false) (by simp [results, Try.results9, go_sem]) rfl ⟨by rw [HF.out], HB.out _⟩
                  · have z2' : ¬ (2100 : Int) < (vl : Int) := by omega
                    have HT2 : Hid (litE (l.take (j + 1)) = true) := by show _ = _; rw [HX.out.1]; exact decide_eq_true (by omega)
                    clear z1 z2
                    go_wp2_with fail
                    go_roundg (L - (j + 1))
                    case measure => have := HR.out; omega
                    case rel => exact ⟨j + 1, by go_num, by have := HR.out; omega, HT2.out, HB.out _⟩
              · have hj' : ¬ (j : Int) < (L : Int) := by omega
                have HE : Hid (litE l = true) := by
                  have := HJ.out.1
                  rwa [List.take_of_length_le (by have := HLE.out; omega)] at this
                have HJB := hid HJ.out.2
                clear hg2 hj HJ
                go_wp2_with fail
                go_roundg (n - (k + 1))
                case measure => have := HLL.out; omega
                case rel => exact ⟨k + 1, m + L, by go_num, by go_num, by have := HLL.out; omega, by have := HQ.out; omega, by rw [HD2.out, HE.out]; rfl, HJB.out⟩
    · have hk' : ¬ (k : Int) < (n : Int) := by omega
      have HF : Hid (T = true) := by
        show _ = _
        rw [HK.out.1, List.drop_eq_nil_of_le (by have := H0.out.len; omega)]; rfl
      have HKB := hid HK.out.2
      clear hg hk
      go_wp2_with fail
      exact bodyPost_ret (v := .bool true) (by simp [results, Try.results9, go_sem]) rfl ⟨by rw [HF.out], HKB.out⟩
end Go.Proofs.Ytnoackenjfpcmaa

/- What the library's IndexByte, Count and Compare answer on slices of bytes, as lists. -/
namespace Go.Proofs.Ytnoackenjfpcmaa
open Go.RowKit
set_option linter.unusedVariables false
set_option linter.unusedSimpArgs false

/-- What an entry of the model reads off a slice of bytes. -/
theorem ext_bytes {w : World} {ao : Option Addr} {len cap : Nat} {xs : List Int} (h : Sl w ao len cap xs) : (Extern.Bytes.bytesOf (.slice ao len cap)).run Try.prog w = .ok ⟨(Lib.bytesOf xs).toArray⟩ w := by
  cases ao with
  | none =>
    have e := (h.2.2.1 rfl).1
    have hx := h.1
    rw [e] at hx
    rw [List.length_eq_zero_iff.1 hx]
    rfl
  | some a =>
    have hl := Lib.run_loadBytesX (P := Try.prog) w xs a .empty (fun j x hj => by
      have hjl : j < xs.length := (List.getElem?_eq_some_iff.1 hj).1
      obtain ⟨_, b, off, e, hc⟩ := h.2.2.2.2.2 j (by rw [← h.1]; exact hjl)
      simp only [Option.some.injEq] at e
      subst e
      have e2 : (⟨b, off, none⟩ : Addr).add j = ⟨b, off + j, none⟩ := by unfold Addr.add; split <;> simp_all
      rw [e2, hc, ← xof_at h.2.1 hjl]
      rw [List.getElem?_eq_getElem hjl] at hj
      simpa using hj)
    rw [h.1] at hl
    have he : (⟨ByteArray.empty.data ++ (Lib.bytesOf xs).toArray⟩ : ByteArray) = ⟨(Lib.bytesOf xs).toArray⟩ := by
      apply ByteArray.ext
      show (#[] : Array UInt8) ++ (Lib.bytesOf xs).toArray = (Lib.bytesOf xs).toArray
      simp
    rw [he] at hl
    exact hl

/-- How many bytes stand ahead of the first nought. -/
def fz (xs : List Int) : Nat := (xs.takeWhile (fun x => x ≠ 0)).length
def ix (xs : List Int) : Int := if fz xs < xs.length then (fz xs : Int) else -1
theorem fz_nil : fz [] = 0 := rfl
theorem fz_zero (r : List Int) : fz (0 :: r) = 0 := by simp [fz]
theorem fz_cons {x : Int} (h : x ≠ 0) (r : List Int) : fz (x :: r) = fz r + 1 := by simp [fz, h]
theorem fz_le : ∀ xs : List Int, fz xs ≤ xs.length
  | [] => Nat.le_refl _
  | x :: r => by
    have := fz_le r
    by_cases q : x = 0
    · subst q; rw [fz_zero]; omega
    · rw [fz_cons q, List.length_cons]; omega
theorem fz_at : ∀ {xs : List Int} (h : fz xs < xs.length), xs[fz xs] = 0
  | [], h => by cases h
  | x :: r, h => by
    by_cases q : x = 0
    · subst q
      simp [fz_zero]
    · have h' : fz r < r.length := by rw [fz_cons q, List.length_cons] at h; omega
      have ih := fz_at h'
      simp only [fz_cons q, List.getElem_cons_succ]
      exact ih
theorem fz_before : ∀ {xs : List Int} {k : Nat} (h : k < fz xs) (hk : k < xs.length), xs[k] ≠ 0
  | [], _, h, hk => by cases hk
  | x :: r, k, h, hk => by
    by_cases q : x = 0
    · subst q; rw [fz_zero] at h; cases h
    · rw [fz_cons q] at h
      cases k with
      | zero => simpa using q
      | succ k =>
        rw [List.getElem_cons_succ]
        exact fz_before (by omega) (by simp at hk; omega)
theorem byte_zero {x : Int} (h : 0 ≤ x ∧ x < 256) : (UInt8.ofNat x.toNat == (0 : UInt8)) = decide (x = 0) := by
  rw [Bool.eq_iff_iff, beq_iff_eq, decide_eq_true_eq]
  constructor
  · intro e
    have := congrArg UInt8.toNat e
    rw [UInt8.toNat_ofNat'] at this
    simp only [Nat.reducePow] at this
    rw [Nat.mod_eq_of_lt (by omega)] at this
    have e0 : (0 : UInt8).toNat = 0 := rfl
    omega
  · intro e
    subst e
    rfl
theorem ix_eq : ∀ {xs : List Int}, Okb xs → Lib.indexByte (Lib.bytesOf xs) 0 = ix xs
  | [], _ => rfl
  | x :: r, h => by
    have ih := ix_eq h.tail
    have hb := byte_zero h.head
    have e : Lib.bytesOf (x :: r) = UInt8.ofNat x.toNat :: Lib.bytesOf r := rfl
    rw [e, Lib.indexByte, hb, ih]
    by_cases q : x = 0
    · subst q
      simp [ix, fz_zero]
    · have hle := fz_le r
      unfold ix
      rw [fz_cons q, List.length_cons]
      by_cases z : fz r < r.length
      · have h1 : ((fz r : Int) == -1) = false := by rw [beq_eq_false_iff_ne]; omega
        have z1 : fz r + 1 < r.length + 1 := by omega
        simp [q, h1, z, z1]
      · have z1 : ¬ fz r + 1 < r.length + 1 := by omega
        simp [q, z, z1]

theorem ext_index {w : World} {ao : Option Addr} {len cap : Nat} {xs : List Int} (h : Sl w ao len cap xs) : (Extern.BytealgIndexByte.indexByte #[.slice ao len cap, .int .u8 0]).run Try.prog w = .ok (.int .i64 (ix xs)) w := by
  have hl := ext_bytes h
  have hs := Lib.run_indexByteString (P := Try.prog) ⟨(Lib.bytesOf xs).toArray⟩ 0 w
  have e0 : (0 : Int).toNat.toUInt8 = 0 := rfl
  rw [e0] at hs
  simp only [ix_eq h.2.1] at hs
  change Sem.run Try.prog (do
    let b ← Extern.Bytes.bytesOf (.slice ao len cap)
    let c ← Extern.Bytes.asByte (.int .u8 0)
    match (List.range b.size).find? fun i => b[i]! == c with
    | some i => pure (goInt i)
    | none => pure (goInt (-1))) w = _
  change Sem.run Try.prog (do
    let b ← Extern.Bytes.bytesOf (.string ⟨(Lib.bytesOf xs).toArray⟩)
    let c ← Extern.Bytes.asByte (.int .u8 0)
    match (List.range b.size).find? fun i => b[i]! == c with
    | some i => pure (goInt i)
    | none => pure (goInt (-1))) w = _ at hs
  rw [Sem.run_bind, hl]
  have e1 : (Extern.Bytes.bytesOf (.string ⟨(Lib.bytesOf xs).toArray⟩)).run Try.prog w = .ok ⟨(Lib.bytesOf xs).toArray⟩ w := rfl
  rw [Sem.run_bind, e1] at hs
  exact hs

/-- How many noughts. -/
def cz (xs : List Int) : Nat := Lib.countByte (Lib.bytesOf xs) 0
theorem cz_le (xs : List Int) : cz xs ≤ xs.length := by
  unfold cz Lib.countByte
  refine Nat.le_trans List.count_le_length ?_
  simp [Lib.bytesOf]
theorem ext_count {w : World} {ao : Option Addr} {len cap : Nat} {xs : List Int} (h : Sl w ao len cap xs) : (Extern.BytealgCount.count #[.slice ao len cap, .int .u8 0]).run Try.prog w = .ok (.int .i64 (cz xs : Int)) w := by
  have hl := ext_bytes h
  have hs := Lib.run_countString (P := Try.prog) ⟨(Lib.bytesOf xs).toArray⟩ 0 w
  change Sem.run Try.prog (do
    let b ← Extern.Bytes.bytesOf (.slice ao len cap)
    let c' ← Extern.Bytes.asByte (.int .u8 0)
    pure (goInt (b.foldl (fun n x => if x == c' then n + 1 else n) (0 : Nat)))) w = _
  change Sem.run Try.prog (do
    let b ← Extern.Bytes.bytesOf (.string ⟨(Lib.bytesOf xs).toArray⟩)
    let c' ← Extern.Bytes.asByte (.int .u8 0)
    pure (goInt (b.foldl (fun n x => if x == c' then n + 1 else n) (0 : Nat)))) w = _ at hs
  rw [Sem.run_bind, hl]
  have e1 : (Extern.Bytes.bytesOf (.string ⟨(Lib.bytesOf xs).toArray⟩)).run Try.prog w = .ok ⟨(Lib.bytesOf xs).toArray⟩ w := rfl
  rw [Sem.run_bind, e1] at hs
  exact hs

theorem cmp_bytes : ∀ {xs ys : List Int}, Okb xs → Okb ys → Lib.compareBytes (Lib.bytesOf xs) (Lib.bytesOf ys) = cmp xs ys
  | [], [], _, _ => rfl
  | [], y :: ys, _, _ => by simp [Lib.bytesOf, Lib.compareBytes, cmp]
  | x :: xs, [], _, _ => by simp [Lib.bytesOf, Lib.compareBytes, cmp]
  | x :: xs, y :: ys, hx, hy => by
    have ih := cmp_bytes hx.tail hy.tail
    have h1 := hx.head
    have h2 := hy.head
    have e1 : (UInt8.ofNat x.toNat).toNat = x.toNat := by
      rw [UInt8.toNat_ofNat']
      simp only [Nat.reducePow]
      exact Nat.mod_eq_of_lt (by omega)
    have e2 : (UInt8.ofNat y.toNat).toNat = y.toNat := by
      rw [UInt8.toNat_ofNat']
      simp only [Nat.reducePow]
      exact Nat.mod_eq_of_lt (by omega)
    have d1 : Lib.bytesOf (x :: xs) = UInt8.ofNat x.toNat :: Lib.bytesOf xs := rfl
    have d2 : Lib.bytesOf (y :: ys) = UInt8.ofNat y.toNat :: Lib.bytesOf ys := rfl
    rw [d1, d2, Lib.compareBytes, ih]
    rcases Int.lt_trichotomy x y with h | h | h
    · have l1 : UInt8.ofNat x.toNat < UInt8.ofNat y.toNat := by rw [UInt8.lt_iff_toNat_lt, e1, e2]; omega
      rw [cmp_less h]
      simp [l1]
    · subst h
      rw [cmp_same]
      have l0 : ¬ UInt8.ofNat x.toNat < UInt8.ofNat x.toNat := UInt8.lt_irrefl _
      simp [l0]
    · have l1 : ¬ UInt8.ofNat x.toNat < UInt8.ofNat y.toNat := by rw [UInt8.lt_iff_toNat_lt, e1, e2]; omega
      have l2 : UInt8.ofNat y.toNat < UInt8.ofNat x.toNat := by rw [UInt8.lt_iff_toNat_lt, e1, e2]; omega
      rw [cmp_more h]
      simp [l1, l2]
theorem ext_cmp {w : World} {ao bo : Option Addr} {la ca lb cb : Nat} {xs ys : List Int} (ha : Sl w ao la ca xs) (hb : Sl w bo lb cb ys) : (Extern.BytealgCompare.compare #[.slice ao la ca, .slice bo lb cb]).run Try.prog w = .ok (.int .i64 (cmp xs ys)) w := by
  have h1 := ext_bytes ha
  have h2 := ext_bytes hb
  change Sem.run Try.prog (do pure (goInt (Extern.BytealgCompare.cmp (← Extern.Bytes.bytesOf (.slice ao la ca)) (← Extern.Bytes.bytesOf (.slice bo lb cb))))) w = _
  rw [Sem.run_bind, h1]
  simp only [Result.andThen]
  rw [Sem.run_bind, h2]
  simp only [Result.andThen, Sem.run_pure]
  rw [Lib.cmp_eq]
  show Result.ok (goInt (Lib.compareBytes (Lib.bytesOf xs) (Lib.bytesOf ys))) w = _
  rw [cmp_bytes ha.2.1 hb.2.1]
  rfl
set_option maxHeartbeats 1000000 in
set_option maxRecDepth 100000 in
theorem compare_l {w : World} {ao bo : Option Addr} {la ca lb cb : Nat} {xs ys : List Int} (ha : Sl w ao la ca xs) (hb : Sl w bo lb cb ys) : Calls Try.prog 29 #[.slice ao la ca, .slice bo lb cb] w fun e w' => e = .returned (.int .i64 (cmp xs ys)) ∧ w' = w := by
  have hx := ext_cmp ha hb
  clear ha hb
  go_enter Try.func29, Try.ntmps29
  go_wp2
  rw [run_callFunc_extern Try.func34 (by kernel_rfl) (by kernel_rfl) (by kernel_rfl) (e := Extern.BytealgCompare.compare) (by kernel_rfl), hx]
  simp only [Result.andThen]
  rw [Oper.upon_value]
  go_wp2
  go_ret
  exact ⟨rfl, rfl⟩
/-- A run of bytes that are no noughts. -/
theorem J.run {xs out : List Int} {i : Nat} (h : J xs out i) : ∀ (r : Nat), i + r ≤ xs.length → (∀ k, i ≤ k → k < i + r → ∀ hk : k < xs.length, xs[k] ≠ 0) → J xs (out ++ (xs.drop i).take r) (i + r)
  | 0, _, _ => by simpa using h
  | r + 1, h1, h2 => by
    have ih := J.run h r (by omega) fun k a b hk => h2 k a (by omega) hk
    have := ih.plain (by omega) (h2 (i + r) (by omega) (by omega) (by omega))
    have e : (xs.drop i).take (r + 1) = (xs.drop i).take r ++ [xs[i + r]'(by omega)] := by
      rw [List.take_add_one, List.getElem?_drop, List.getElem?_eq_getElem (by omega)]
      rfl
    rw [e, ← List.append_assoc]
    exact this
end Go.Proofs.Ytnoackenjfpcmaa
